/- Contracts of the document's own Do, Start and Left of stacks (layer 17). -/
import Derived.Test.YtobcedlkmnmikaaThU
namespace Go.Proofs.Ytobcedlkmnmikaa.Fo
open Go.RowKit Go.Deep
/-- What hands back a row of items, to be read. -/
def GotR (w : World) (m : Nat) (l : List Itm) (e : Ending) (w' : World) : Prop := ∃ A c, e = .returned (.slice A m c) ∧ Ir w'.heap.size w' A l ∧ m ≤ c ∧ Below w.heap.size w w'
/-- An item in a box. -/
def Ib (w : World) (g : Nat) (x : Itm) : Prop := w.heap[g]? = some (.cells #[.int .i64 x.1, .int .i64 x.2.1, .int .i64 x.2.2] 40 (0, 0))
set_option maxRecDepth 100000 in
theorem Ib.new (w : World) (x : Itm) : Ib (w.alloc (.cells #[.int .i64 x.1, .int .i64 x.2.1, .int .i64 x.2.2] 40)) w.heap.size x := heap_alloc_new _ _
set_option maxRecDepth 100000 in
theorem Ib.cells {w : World} {g : Nat} {x : Itm} (h : Ib w g x) : w.cell? ⟨g, 0, none⟩ = some (.int .i64 x.1) ∧ w.cell? ⟨g, 1, none⟩ = some (.int .i64 x.2.1) ∧ w.cell? ⟨g, 2, none⟩ = some (.int .i64 x.2.2) ∧ ∀ i, w.frozen? ⟨g, i, none⟩ = false := by
  unfold Ib at h
  simp [World.cell?, World.frozen?, h]
set_option maxRecDepth 100000 in
theorem Ib.set1 {w : World} {g : Nat} {x : Itm} (h : Ib w g x) (v : Int) : Ib (w.setCell ⟨g, 1, none⟩ (.int .i64 v)) g (x.1, v, x.2.2) := by
  unfold Ib at h ⊢
  simp [World.setCell, Array.getElem?_modify, h]
set_option maxRecDepth 100000 in
theorem Ib.set2 {w : World} {g : Nat} {x : Itm} (h : Ib w g x) (v : Int) : Ib (w.setCell ⟨g, 2, none⟩ (.int .i64 v)) g (x.1, x.2.1, v) := by
  unfold Ib at h ⊢
  simp [World.setCell, Array.getElem?_modify, h]
set_option maxRecDepth 100000 in
theorem Ib.lt {w : World} {g : Nat} {x : Itm} (h : Ib w g x) : g < w.heap.size := (Array.getElem?_eq_some_iff.1 h).1
section
variable {A S : Option Addr} {c cs lt n : Nat} {T : List Tsk} {s : List Itm} {w : World}
set_option maxRecDepth 100000 in
theorem krmay (hT : Tk w.heap.size w A T) (hS : Ir w.heap.size w S s) (hs : Sm T) (hlt : T.length = lt) (hn : s.length = n) (hl : n ≤ 1000) {q : Bool} (hq : mayS T s = q) : Tells 16 #[.slice A lt c, .slice S n cs] w (.bool q) := by
  subst hlt hn hq
  exact rtmay_any A S c cs _ T s w hT hS (Nat.le_refl _) hs hl
set_option maxRecDepth 100000 in
theorem krnext (hT : Tk w.heap.size w A T) (hS : Ir w.heap.size w S s) (hs : Sm T) (hlt : T.length = lt) (hn : s.length = n) (hl : n ≤ 1000) {a b : Int} (hq : nextS T s = (a, b)) : Tells 18 #[.slice A lt c, .slice S n cs] w (.agg #[.int .i64 a, .int .i64 b]) := by
  subst hlt hn
  have := rtnext_any A S c cs _ T s w hT hS (Nat.le_refl _) hs hl
  rw [hq] at this
  exact this
set_option maxRecDepth 100000 in
theorem krdo_no (hT : Tk w.heap.size w A T) (hS : Ir w.heap.size w S s) (hs : Sm T) (hlt : T.length = lt) (hn : s.length = n) (hl : n ≤ 1000) (hc : n ≤ cs) {b : Int} (hq : nextS T s = (0, b)) : Calls Try.prog 13 #[.slice A lt c, .slice S n cs] w (GotR w n s) := by
  have KK := Lib.hid (krnext (c := c) (cs := cs) hT hS hs hlt hn hl hq)
  have HS := Lib.hid hS
  clear hT hS hs hlt hn hq
  go_enter Try.func13, Try.ntmps13
  go_wp2_with fail
  refine KK.out.mono ?_
  rintro _ w1 ⟨rfl, z1⟩
  replace HS := Lib.hid (HS.out.later (z1.trans ((bel_new w1 (.cells #[.int .i64 0, .int .i64 b] 31)).mono z1.size)))
  have Z := Lib.hid (z1.trans ((bel_new w1 (.cells #[.int .i64 0, .int .i64 b] 31)).mono z1.size))
  clear z1
  go_wp2
  go_ret
  exact ⟨_, _, rfl, HS.out, hc, Z.out⟩
end
set_option maxHeartbeats 2000000 in
set_option maxRecDepth 100000 in
theorem krdo_yes {A S : Option Addr} {c cs lt m : Nat} {T : List Tsk} {p : List Itm} {x : Itm} {w : World} (hT : Tk w.heap.size w A T) (hS : Ir w.heap.size w S (p ++ [x])) (hs : Sm T) (hlt : T.length = lt) (hp : p.length = m) (hl : m < 1000) (hc : m + 1 ≤ cs) (hm : mayS T (p ++ [x]) = true) {k : Nat} (hk : (p ++ bumpI T x).length = k) : Calls Try.prog 13 #[.slice A lt c, .slice S (m + 1) cs] w (GotR w k (p ++ bumpI T x)) := by
  obtain ⟨⟨q, r⟩, hq⟩ : ∃ q, actI T x = q := ⟨_, rfl⟩
  have hlen : (p ++ [x]).length = m + 1 := by simp [hp]
  have KK := Lib.hid (krnext (c := c) (cs := cs) hT hS hs hlt hlen (by omega) ((nextS_snoc hm).trans hq))
  obtain ⟨n, e0, hn, hd0, hd1, hk0, hk1⟩ := item_at hm
  have hw := (wk_at (may_parts (mayS_all hm).1).2.1 hn).2
  have hkl := hs.at hn
  have ebump : bumpI T x = if (actI T x).1 = 1 then [(x.1, x.2.1 + 1, x.2.2)] else if (actI T x).1 = 2 then [(x.1, x.2.1, x.2.2 + 1)] else [] := by
    unfold bumpI actI
    split
    · simp
    split
    · simp
    · simp
  have hkind := kind_at (T := T) (x := x)
  rw [hq] at ebump hkind
  simp only at ebump hkind
  generalize hB : bumpI T x = B at *
  have HB := Lib.hid (ebump)
  have HKIND := Lib.hid hkind
  have hq0 : (q == 0) = false := by simp; omega
  have hd2 : x.2.1 ≤ 20 := by omega
  have hk2 : x.2.2 ≤ 1000 := by omega
  obtain ⟨b, off, rfl, hb, hc0⟩ := hS (by omega)
  have hlast : (p ++ [x])[m]? = some x := by subst hp; simp
  obtain ⟨s0, s1, s2⟩ := hc0 m x hlast
  have hpre := hS.part 0 m
  rw [List.drop_zero, List.take_left' hp, show off + 0 * 3 = off by omega] at hpre
  have HPRE := Lib.hid hpre
  have HP := Lib.hid hp
  have HK := Lib.hid hk
  clear hT hS hs hlt hm hlen hc0 hlast hpre ebump hp hk hq hkl hw hd1 hk1 hkind hB
  obtain ⟨x0, x1, x2⟩ := x
  simp only at e0 hd0 hk0 hd2 hk2 s0 s1 s2
  subst e0
  go_enter Try.func13, Try.ntmps13
  go_wp2_with fail
  refine KK.out.mono ?_
  rintro _ w1 ⟨rfl, z1⟩
  have z2 := z1.trans ((bel_new w1 (.cells #[.int .i64 q, .int .i64 r] 31)).mono z1.size)
  have AB := Lib.hid (Ab.new w1 q r)
  go_upto_region 2 with fail
  generalize w1.alloc (.cells #[.int .i64 q, .int .i64 r] 31) = w2 at *
  have hga := AB.out.lt
  have hgw : w.heap.size ≤ w1.heap.size := z1.size
  generalize w1.heap.size = ga at *
  obtain ⟨c0, c1, _, _⟩ := AB.out.cells
  obtain ⟨A', c', w3, hrun, hown, _, hbw⟩ := app_items (Iow.nil w2 w2.heap.size) cs ((HPRE.out.below z2).src) HP.out (by omega) (Nat.le_refl _)
  simp only [Nat.zero_add, List.nil_append] at hrun hown
  have HRUN := Lib.hid hrun
  have HOW := Lib.hid hown
  have Z3 := Lib.hid (z2.trans (hbw.mono z2.size))
  have AB3 := Lib.hid (AB.out.below hbw hga)
  have s0 := (Z3.out.cell (p := ⟨b, off + m * 3, none⟩) hb).trans s0
  have s1 := (Z3.out.cell (p := ⟨b, off + m * 3 + 1, none⟩) hb).trans s1
  have s2 := (Z3.out.cell (p := ⟨b, off + m * 3 + 2, none⟩) hb).trans s2
  have hwm : IntKind.i64.wrap (m : Int) = (m : Int) := by rw [IntKind.wrap_i64]; omega
  have hsz2 := z2.size
  have hsz3 := hbw.size
  clear hrun hown hbw z1 z2
  go_upto_region 5 with (at_builtin; (with_reducible refine wpList_append_run HRUN.out ?_ ?_ ?_ ?_); exact ⟨_, _, rfl, rfl, rfl⟩; rfl; rfl)
  have hlt4 := fun k hk => (World.ownsRow.lt HOW.out k hk).2
  rcases HKIND.out with rfl | rfl | rfl
  · have EB := Lib.hid (show B = [((n : Int), x1 + 1, x2)] by rw [HB.out]; rfl)
    have i4 := Ib.new w3 ((n : Int), x1, x2)
    have hz4 := bel_new w3 (.cells #[.int .i64 n, .int .i64 x1, .int .i64 x2] 40)
    have a4 := AB3.out.below hz4 AB3.out.lt
    obtain ⟨d0, d1, _, _⟩ := a4.cells
    obtain ⟨e0, e1, e2, ez⟩ := i4.cells
    have ez1 := ez 1
    have ez2 := ez 2
    have hb3 : b < w3.heap.size := block_lt_of_cell s0
    have HOW4 := Lib.hid (HOW.out.below hz4)
    have Z4 := Lib.hid (Z3.out.trans (hz4.mono Z3.out.size))
    have I4 := Lib.hid i4
    clear a4 i4 ez
    go_upto_region 6 with fail
    have hge : ga ≠ w3.heap.size := by have := AB3.out.lt; omega
    have hgsz : w3.heap.size < (w3.alloc (.cells #[.int .i64 n, .int .i64 x1, .int .i64 x2] 40)).heap.size := by simp
    have hlo : w.heap.size ≤ w3.heap.size := Z3.out.size
    generalize w3.alloc (.cells #[.int .i64 n, .int .i64 x1, .int .i64 x2] 40) = w4 at *
    generalize w3.heap.size = g4 at *
    clear s0 s1 s2 hb3 c0 c1 hz4
    have I5 := Lib.hid (I4.out.set1 (x1 + 1))
    have hz5 : Below g4 w4 (w4.setCell ⟨g4, 1, none⟩ (.int .i64 (x1 + 1))) := (Below.refl _ _).setCell (p := ⟨g4, 1, none⟩) (Nat.le_refl _) _
    have a5 := AB3
    have hne5 : g4 ≠ ga := fun e => hge e.symm
    have dd : ∀ i, (w4.setCell ⟨g4, 1, none⟩ (.int .i64 (x1 + 1))).cell? ⟨ga, i, none⟩ = w4.cell? ⟨ga, i, none⟩ := fun i => World.cell?_of_block (a := ⟨ga, i, none⟩) (Below.heap_setCell w4 _ _ ga (by simpa using hge))
    have f0 := (dd 0).trans d0
    obtain ⟨g0, g1, g2, _⟩ := I5.out.cells
    have OW5 := Lib.hid (HOW4.out.kept (w' := w4.setCell ⟨g4, 1, none⟩ (.int .i64 (x1 + 1))) (fun k hk => Below.heap_setCell w4 _ _ k (by have := hlt4 k hk; simp; omega)))
    have Z5 := Lib.hid (Z4.out.trans (hz5.mono hlo))
    go_upto_region 12 with fail
    generalize w4.setCell ⟨g4, 1, none⟩ (.int .i64 (x1 + 1)) = w5 at *
    obtain ⟨A6, c6, w6, hrun6, hown6, hb6⟩ := iapp_one OW5.out ((n : Int), x1 + 1, x2) (by omega) (by have := hz5.size; omega)
    have HRUN6 := Lib.hid hrun6
    have HOW6 := Lib.hid hown6
    have Z6 := Lib.hid (Z5.out.trans (hb6.mono (by omega)))
    clear hrun6 hown6 hb6 d0 d1 e0 e1 e2
    go_wp2_with (at_builtin; (with_reducible refine wpList_append_run HRUN6.out ?_ ?_ ?_ ?_); exact ⟨_, _, rfl, rfl, rfl⟩; rfl; rfl)
    go_ret
    have ek : m + 1 = k := by rw [← HK.out, EB.out]; simp [HP.out]
    subst ek
    rw [EB.out]
    exact ⟨_, _, rfl, HOW6.out.ir, HOW6.out.room.1, Z6.out⟩
  · have EB := Lib.hid (show B = [((n : Int), x1, x2 + 1)] by rw [HB.out]; rfl)
    have i4 := Ib.new w3 ((n : Int), x1, x2)
    have hz4 := bel_new w3 (.cells #[.int .i64 n, .int .i64 x1, .int .i64 x2] 40)
    have a4 := AB3.out.below hz4 AB3.out.lt
    obtain ⟨d0, d1, _, _⟩ := a4.cells
    obtain ⟨e0, e1, e2, ez⟩ := i4.cells
    have ez1 := ez 1
    have ez2 := ez 2
    have hb3 : b < w3.heap.size := block_lt_of_cell s0
    have HOW4 := Lib.hid (HOW.out.below hz4)
    have Z4 := Lib.hid (Z3.out.trans (hz4.mono Z3.out.size))
    have I4 := Lib.hid i4
    clear a4 i4 ez
    go_upto_region 6 with fail
    have hge : ga ≠ w3.heap.size := by have := AB3.out.lt; omega
    have hgsz : w3.heap.size < (w3.alloc (.cells #[.int .i64 n, .int .i64 x1, .int .i64 x2] 40)).heap.size := by simp
    have hlo : w.heap.size ≤ w3.heap.size := Z3.out.size
    generalize w3.alloc (.cells #[.int .i64 n, .int .i64 x1, .int .i64 x2] 40) = w4 at *
    generalize w3.heap.size = g4 at *
    clear s0 s1 s2 hb3 c0 c1 hz4
    have I5 := Lib.hid (I4.out.set2 (x2 + 1))
    have hz5 : Below g4 w4 (w4.setCell ⟨g4, 2, none⟩ (.int .i64 (x2 + 1))) := (Below.refl _ _).setCell (p := ⟨g4, 2, none⟩) (Nat.le_refl _) _
    have a5 := AB3
    have hne5 : g4 ≠ ga := fun e => hge e.symm
    have dd : ∀ i, (w4.setCell ⟨g4, 2, none⟩ (.int .i64 (x2 + 1))).cell? ⟨ga, i, none⟩ = w4.cell? ⟨ga, i, none⟩ := fun i => World.cell?_of_block (a := ⟨ga, i, none⟩) (Below.heap_setCell w4 _ _ ga (by simpa using hge))
    have f0 := (dd 0).trans d0
    obtain ⟨g0, g1, g2, _⟩ := I5.out.cells
    have OW5 := Lib.hid (HOW4.out.kept (w' := w4.setCell ⟨g4, 2, none⟩ (.int .i64 (x2 + 1))) (fun k hk => Below.heap_setCell w4 _ _ k (by have := hlt4 k hk; simp; omega)))
    have Z5 := Lib.hid (Z4.out.trans (hz5.mono hlo))
    go_upto_region 12 with fail
    generalize w4.setCell ⟨g4, 2, none⟩ (.int .i64 (x2 + 1)) = w5 at *
    obtain ⟨A6, c6, w6, hrun6, hown6, hb6⟩ := iapp_one OW5.out ((n : Int), x1, x2 + 1) (by omega) (by have := hz5.size; omega)
    have HRUN6 := Lib.hid hrun6
    have HOW6 := Lib.hid hown6
    have Z6 := Lib.hid (Z5.out.trans (hb6.mono (by omega)))
    clear hrun6 hown6 hb6 d0 d1 e0 e1 e2
    go_wp2_with (at_builtin; (with_reducible refine wpList_append_run HRUN6.out ?_ ?_ ?_ ?_); exact ⟨_, _, rfl, rfl, rfl⟩; rfl; rfl)
    go_ret
    have ek : m + 1 = k := by rw [← HK.out, EB.out]; simp [HP.out]
    subst ek
    rw [EB.out]
    exact ⟨_, _, rfl, HOW6.out.ir, HOW6.out.room.1, Z6.out⟩
  · have EB := Lib.hid (show B = [] by rw [HB.out]; rfl)
    have i4 := Ib.new w3 ((n : Int), x1, x2)
    have hz4 := bel_new w3 (.cells #[.int .i64 n, .int .i64 x1, .int .i64 x2] 40)
    have a4 := AB3.out.below hz4 AB3.out.lt
    obtain ⟨d0, d1, _, _⟩ := a4.cells
    obtain ⟨e0, e1, e2, ez⟩ := i4.cells
    have ez1 := ez 1
    have ez2 := ez 2
    have hb3 : b < w3.heap.size := block_lt_of_cell s0
    have HOW4 := Lib.hid (HOW.out.below hz4)
    have Z4 := Lib.hid (Z3.out.trans (hz4.mono Z3.out.size))
    have I4 := Lib.hid i4
    clear a4 i4 ez
    go_upto_region 6 with fail
    have hge : ga ≠ w3.heap.size := by have := AB3.out.lt; omega
    have hgsz : w3.heap.size < (w3.alloc (.cells #[.int .i64 n, .int .i64 x1, .int .i64 x2] 40)).heap.size := by simp
    have hlo : w.heap.size ≤ w3.heap.size := Z3.out.size
    generalize w3.alloc (.cells #[.int .i64 n, .int .i64 x1, .int .i64 x2] 40) = w4 at *
    generalize w3.heap.size = g4 at *
    clear s0 s1 s2 hb3 c0 c1 hz4
    go_wp2
    go_ret
    have ek : m = k := by rw [← HK.out, EB.out, List.append_nil, HP.out]
    subst ek
    rw [EB.out, List.append_nil]
    exact ⟨_, _, rfl, HOW4.out.ir, HOW4.out.room.1, Z4.out⟩

section
variable {A S : Option Addr} {c cs lt n : Nat} {T : List Tsk} {s : List Itm} {w : World}
set_option maxRecDepth 100000 in
theorem krdo (hT : Tk w.heap.size w A T) (hS : Ir w.heap.size w S s) (hs : Sm T) (hlt : T.length = lt) (hn : s.length = n) (hl : n ≤ 1000) (hc : n ≤ cs) {k : List Itm} {m : Nat} (hk : doS T s = k) (hm : k.length = m) : Calls Try.prog 13 #[.slice A lt c, .slice S n cs] w (GotR w m k) := by
  by_cases h : nextS T s = (0, 0)
  · have e : doS T s = s := by
      rcases Classical.em (s = []) with rfl | e2
      · exact doS_nil
      · cases hm : mayS T s
        · exact doS_no hm
        · obtain ⟨p, x, rfl⟩ := snoc_of e2
          rw [nextS_snoc hm] at h
          have := kind_at (T := T) (x := x)
          rw [h] at this
          simp at this
    rw [e] at hk
    subst hk
    obtain rfl : n = m := hn.symm.trans hm
    exact krdo_no hT hS hs hlt hn hl hc h
  · obtain ⟨p, x, rfl⟩ : ∃ p x, s = p ++ [x] := by
      rcases Classical.em (s = []) with rfl | e2
      · exact absurd nextS_nil h
      · exact snoc_of e2
    have hy : mayS T (p ++ [x]) = true := by
      cases hy : mayS T (p ++ [x])
      · exact absurd (nextS_no hy) h
      · rfl
    rw [doS_snoc hy] at hk
    subst hk
    obtain rfl : n = p.length + 1 := by rw [← hn]; simp
    exact krdo_yes hT hS hs hlt rfl (by omega) hc hy hm
set_option maxHeartbeats 1000000 in
set_option maxRecDepth 100000 in
theorem krstart (hT : Tk w.heap.size w A T) (hS : Ir w.heap.size w S s) (hs : Sm T) (hlt : T.length = lt) (hn : s.length = n) (hl : n ≤ 1000) (hc : n ≤ cs) {i : Int} {k : List Itm} {m : Nat} (hk : startS T s i = k) (hm : k.length = m) : Calls Try.prog 15 #[.slice A lt c, .slice S n cs, .int .i64 i] w (GotR w m k) := by
  have HS := Lib.hid hS
  have HN := Lib.hid hn
  have HMM := Lib.hid hm
  cases hy : mayS T s
  · obtain rfl := (startS_no hy).symm.trans hk
    have KK := Lib.hid (krmay (c := c) (cs := cs) hT hS hs hlt hn hl hy)
    obtain rfl : n = m := hn.symm.trans hm
    clear hT hS hs hlt hn hk hm hy
    go_enter Try.func15, Try.ntmps15
    go_wp2_with fail
    refine KK.out.mono ?_
    rintro _ w1 ⟨rfl, z1⟩
    replace HS := Lib.hid (HS.out.later z1)
    have Z := Lib.hid z1
    clear z1
    go_wp2
    go_ret
    exact ⟨_, _, rfl, HS.out, hc, Z.out⟩
  · have KK := Lib.hid (krmay (c := c) (cs := cs) hT hS hs hlt hn hl hy)
    by_cases hi : 0 ≤ i ∧ i < (lt : Int)
    · have e : startS T s i = s ++ [(i, 0, 0)] := by unfold startS; rw [if_pos ⟨hy, hi.1, by rw [hlt]; exact hi.2⟩]
      rw [e] at hk
      have HK := Lib.hid hk
      have ek : n + 1 = m := by rw [← hm, ← hk, ← hn]; simp
      obtain ⟨h0, h1⟩ := hi
      have d0 : decide (i < 0) = false := decide_eq_false (by omega)
      have d1 : decide ((lt : Int) ≤ i) = false := decide_eq_false (by omega)
      clear hT hS hs hlt hn hk hm hy e
      go_enter Try.func15, Try.ntmps15
      go_wp2_with fail
      refine KK.out.mono ?_
      rintro _ w1 ⟨rfl, z1⟩
      replace HS := Lib.hid (HS.out.later z1)
      have Z := Lib.hid z1
      obtain ⟨A1, c1, w2, hrun, hown, _, hb⟩ := app_items (Iow.nil w1 w1.heap.size) cs HS.out.src HN.out (by omega) (Nat.le_refl _)
      simp only [Nat.zero_add, List.nil_append] at hrun hown
      obtain ⟨A2, c2, w3, hrun3, hown3, hb3⟩ := iapp_one hown (i, 0, 0) (by omega) hb.size
      have R1 := Lib.hid hrun
      have R2 := Lib.hid hrun3
      have OW := Lib.hid hown3
      have Z2 := Lib.hid (Z.out.trans ((hb.trans hb3).mono Z.out.size))
      clear z1 hrun hrun3 hown hown3 hb hb3
      go_wp2_with (first
        | (at_builtin; (with_reducible refine wpList_append_run R1.out ?_ ?_ ?_ ?_); exact ⟨_, _, rfl, rfl, rfl⟩; rfl; rfl)
        | (at_builtin; (with_reducible refine wpList_append_run R2.out ?_ ?_ ?_ ?_); exact ⟨_, _, rfl, rfl, rfl⟩; rfl; rfl))
      go_ret
      subst ek
      rw [← HK.out]
      exact ⟨_, _, rfl, OW.out.ir, OW.out.room.1, Z2.out⟩
    · have e : startS T s i = s := by unfold startS; rw [if_neg (fun h => hi ⟨h.2.1, by rw [← hlt]; exact h.2.2⟩)]
      rw [e] at hk
      subst hk
      obtain rfl : n = m := hn.symm.trans hm
      have hi' : i < 0 ∨ (¬ i < 0 ∧ (lt : Int) ≤ i) := by omega
      clear hT hS hs hlt hn hm hy e hi
      rcases hi' with h | ⟨h, h2⟩
      · go_enter Try.func15, Try.ntmps15
        go_wp2_with fail
        refine KK.out.mono ?_
        rintro _ w1 ⟨rfl, z1⟩
        replace HS := Lib.hid (HS.out.later z1)
        have Z := Lib.hid z1
        clear z1
        go_wp2
        go_ret
        exact ⟨_, _, rfl, HS.out, hc, Z.out⟩
      · go_enter Try.func15, Try.ntmps15
        go_wp2_with fail
        refine KK.out.mono ?_
        rintro _ w1 ⟨rfl, z1⟩
        replace HS := Lib.hid (HS.out.later z1)
        have Z := Lib.hid z1
        clear z1
        go_wp2
        go_ret
        exact ⟨_, _, rfl, HS.out, hc, Z.out⟩
set_option maxHeartbeats 1000000 in
set_option maxRecDepth 100000 in
theorem krleft (hT : Tk w.heap.size w A T) (hS : Ir w.heap.size w S s) (hs : Sm T) (hlt : T.length = lt) (hn : s.length = n) (hl : n ≤ 1000) (hc : n ≤ cs) {q : Int} (hq : leftS T s = q) : Tells 20 #[.slice A lt c, .slice S n cs] w (.int .i64 q) := by
  cases hy : mayS T s
  · have KK := Lib.hid (krmay (c := c) (cs := cs) hT hS hs hlt hn hl hy)
    obtain rfl : q = 0 := hq.symm.trans (leftS_no hy)
    clear hT hS hs hlt hn hq hy
    go_enter Try.func20, Try.ntmps20
    go_wp2_with fail
    refine KK.out.mono ?_
    rintro _ w1 ⟨rfl, z1⟩
    have Z := Lib.hid z1
    clear z1
    go_wp2
    go_loopw [1, 6] (fun xv nv wr => xv = .slice S n cs ∧ nv = .int .i64 0 ∧ wr = w1) (fun _ _ _ => 0)
    case atStart => exact ⟨rfl, rfl, rfl⟩
    case round =>
      obtain ⟨rfl, rfl, rfl⟩ := hrel
      go_wp2
      go_ret
      exact ⟨rfl, Z.out⟩
  · have KK := Lib.hid (krmay (c := c) (cs := cs) hT hS hs hlt hn hl hy)
    have hb := leftS_le hs hy
    rw [hq, hn] at hb
    have HT := Lib.hid hT
    have HS := Lib.hid hS
    have SM := Lib.hid hs
    have HLT := Lib.hid hlt
    have HQ := Lib.hid hq
    have HY := Lib.hid hy
    have HN := Lib.hid hn
    clear hT hS hs hlt hn hq hy
    go_enter Try.func20, Try.ntmps20
    go_wp2_with fail
    refine KK.out.mono ?_
    rintro _ w1 ⟨rfl, z1⟩
    replace HT := Lib.hid (HT.out.later z1)
    replace HS := Lib.hid (HS.out.later z1)
    have Z := Lib.hid z1
    clear z1
    go_wp2
    go_loopw [1, 6] (fun xv nv wr => ∃ (l : List Itm) (X : Option Addr) (m cX : Nat) (y : Int), xv = .slice X m cX ∧ nv = .int .i64 y ∧ Hid (l.length = m) ∧ m ≤ 1000 ∧ m ≤ cX ∧ Hid (Ir wr.heap.size wr X l) ∧ Hid (mayS T l = true) ∧ Hid (y + leftS T l = q) ∧ 0 ≤ y ∧ Hid (Below w1.heap.size w1 wr)) (fun _ nv _ => (q - intOf nv).toNat)
    case atStart => exact ⟨s, S, n, cs, 0, rfl, rfl, HN, hl, hc, HS, HY, Lib.hid (by rw [HQ.out]; omega), by omega, Lib.hid (Below.refl _ _)⟩
    case round =>
      obtain ⟨l, X, m, cX, y, rfl, rfl, HL, hm, hmc, HX, HMY, HYL, hy0, HB⟩ := hrel
      by_cases h0 : l = []
      · subst h0
        obtain rfl : m = 0 := HL.out.symm
        have E := Lib.hid (show y = q by rw [← HYL.out, leftS_nil]; omega)
        go_wp2
        go_ret
        exact ⟨by rw [← E.out]; rfl, Z.out.trans (HB.out.mono Z.out.size)⟩
      · obtain ⟨g1, g2, g3, g4, g5⟩ := less_S HMY.out h0
        have hpos : 0 < m := by
          rw [← HL.out]
          exact List.length_pos_iff.2 h0
        have hpos2 : decide ((0 : Int) < (m : Int)) = true := decide_eq_true (by omega)
        obtain ⟨k, hk⟩ : ∃ k, doS T l = k := ⟨_, rfl⟩
        obtain ⟨m2, hm2⟩ : ∃ m2, k.length = m2 := ⟨_, rfl⟩
        rw [hk, hm2, HL.out] at g3
        rw [hk] at g1 g2
        have G1 := Lib.hid g1
        have HK := Lib.hid hk
        have HM2 := Lib.hid hm2
        have G2 := Lib.hid (show y + 1 + leftS T k = q by rw [g2, ← HYL.out]; omega)
        have hyq : y < q := by rw [← HYL.out]; omega
        clear g1 g2 g4 g5 h0 hk hm2
        go_wp2_with fail
        refine (krdo (HT.out.later HB.out) HX.out SM.out HLT.out HL.out hm hmc HK.out HM2.out).mono ?_
        rintro _ w2 ⟨X2, cX2, rfl, hX2, hc2, z2⟩
        have HX2 := Lib.hid hX2
        replace HB := Lib.hid (HB.out.trans (z2.mono HB.out.size))
        clear hX2 z2
        go_wp2
        go_roundw
        case rel => exact ⟨k, X2, m2, cX2, y + 1, rfl, by go_num, HM2, by omega, hc2, HX2, G1, G2, by omega, HB⟩
        case measure => simp [intOf]; omega
end
end Go.Proofs.Ytobcedlkmnmikaa.Fo
