/- Contract of next: the call that begins, and what is left of its list. -/
import Derived.Test.YtppllanmgdhabaaIkH
import Derived.Test.YtppllanmgdhabaaIkL
import Derived.Deep.RegionHeld3
namespace Go.Proofs.Ytppllanmgdhabaa
open Go.RowKit Go.Deep
/-- What next leaves. -/
def RetNx (lo : Nat) (w : World) (f : Fr) (l : List Fr) (e : Ending) (w' : World) : Prop :=
  ∃ A c, e = .returned (.tuple #[fv f, .slice A l.length c]) ∧ l.length ≤ c ∧ Pr lo w' A l ∧ Below w.heap.size w w'
theorem nxtI_skip {i : Int} {l : List Fr} {j : Nat} (hj : j < l.length) (h : ¬ (l[j].op = 3 ∨ l[j].op = 4)) : nxtI i (l.drop j) = nxtI i (l.drop (j + 1)) := by
  rw [List.drop_eq_getElem_cons hj]
  show (if _ then _ else _) = _
  rw [if_neg h]
theorem nxtI_take {i : Int} {l : List Fr} {j : Nat} (hj : j < l.length) (h : l[j].op = 3 ∨ l[j].op = 4) : nxtI i (l.drop j) = (fbg l[j].op i l[j].val, l.drop (j + 1)) := by
  rw [List.drop_eq_getElem_cons hj]
  show (if _ then _ else _) = _
  rw [if_pos h]
theorem next_fin {i : Int} {n j lo : Nat} {l : List Fr} {f : Fr} {w w2 : World} {A' : Option Addr} (hX : nxtI i l = (f, l.drop (j + 1))) (hn : l.length = n) (hP : Pr lo w2 A' (l.drop (j + 1))) (hg : w.heap.size ≤ w.heap.size) (hZ : Below w.heap.size w w2) (hlo : lo ≤ w.heap.size) (f' : Fr) :
    RetNx lo w (nxtI i l).1 (nxtI i l).2 (.returned (.tuple #[fv f, .slice A' (n - (j + 1)) (n - (j + 1))])) (pf w2 w.heap.size f') := by
  rw [hX]
  have hl : (l.drop (j + 1)).length = n - (j + 1) := by rw [List.length_drop, hn]
  refine ⟨A', n - (j + 1), by rw [hl], by rw [hl]; exact Nat.le_refl _, hP.same fun b hb _ => pf_other' _ _ _ (by omega), below_pf hZ hg _⟩
set_option maxRecDepth 100000 in
set_option maxHeartbeats 4000000 in
theorem next_any (i : Int) (A : Option Addr) (n c : Nat) (l : List Fr) (lo : Nat) (w : World) (h : Pr lo w A l) (hlo : lo ≤ w.heap.size) (hn : l.length = n) (hc : n ≤ c) (hs : n ≤ 500) :
    Calls Try.prog 39 #[.int .i64 i, .slice A n c] w (RetNx lo w (nxtI i l).1 (nxtI i l).2) := by
  have H := Lib.hid h
  have HN := Lib.hid hn
  have HLO := Lib.hid hlo
  clear h hn
  have B0 : Bf (w.alloc (.cells #[.int .i64 0, .int .i64 0, .int .i64 0, .int .u64 0, .int .u64 0, .int .u64 0, .int .i64 0] 28)) w.heap.size f0 := heap_alloc_new _ _
  have Z : Below w.heap.size w (w.alloc (.cells #[.int .i64 0, .int .i64 0, .int .i64 0, .int .u64 0, .int .u64 0, .int .u64 0, .int .i64 0] 28)) := (Below.refl _ _).alloc (Nat.le_refl _) _
  have hz : w.heap.size < (w.alloc (.cells #[.int .i64 0, .int .i64 0, .int .i64 0, .int .u64 0, .int .u64 0, .int .u64 0, .int .i64 0] 28)).heap.size := by simp
  go_enter Try.func39, Try.ntmps39
  go_upto_region 1 with fail
  generalize w.alloc (.cells #[.int .i64 0, .int .i64 0, .int .i64 0, .int .u64 0, .int .u64 0, .int .u64 0, .int .i64 0] 28) = w0 at B0 Z hz ⊢
  have HB0 := Lib.hid B0
  have HZ := Lib.hid Z
  clear B0 Z
  go_wp2
  go_loopw [13] (fun x wr => ∃ j : Nat, x = .int .i64 j ∧ j ≤ n ∧ Hid (Below w.heap.size w wr) ∧ Hid (Bf wr w.heap.size f0) ∧ Hid (nxtI i l = nxtI i (l.drop j))) (fun x _ => n - (intOf x).toNat)
  case atStart => exact ⟨0, rfl, Nat.zero_le _, HZ, HB0, Lib.hid rfl⟩
  case round =>
    obtain ⟨j, rfl, hj, hZ, hB, hX⟩ := hrel
    have hlt0 := hB.out.lt
    by_cases hlt : j < n
    · have hL : j < l.length := by rw [HN.out]; exact hlt
      have hP := H.out.below (hZ.out.mono HLO.out)
      obtain ⟨b, off, rfl, hb, hC⟩ := hP.at hL
      have HP := Lib.hid hP
      have hXt := fun hh => Lib.hid (hX.out.trans (nxtI_take (i := i) hL hh))
      have hXs := fun hh => Lib.hid (hX.out.trans (nxtI_skip (i := i) hL hh))
      generalize l[j] = f at hC hXt hXs
      obtain ⟨o, p, q, v, x, y, s⟩ := f
      obtain ⟨a0, a1, a2, a3, a4, a5, a6⟩ := hC
      simp only at a0 a1 a2 a3 a4 a5 a6 hXt hXs
      have d1 : decide ((j : Int) < (n : Int)) = true := decide_eq_true (by omega)
      clear hP hX
      by_cases h3 : o = 3
      · subst h3
        have HX := hXt (.inl rfl)
        clear hXt hXs
        have BF := Lib.hid (show Bf (wr.alloc (.cells #[.int .i64 3, .int .i64 p, .int .i64 q, .int .u64 v, .int .u64 x, .int .u64 y, .int .i64 s] 28)) wr.heap.size ⟨3, p, q, v, x, y, s⟩ from heap_alloc_new _ _)
        have Z1 : Below wr.heap.size wr (wr.alloc (.cells #[.int .i64 3, .int .i64 p, .int .i64 q, .int .u64 v, .int .u64 x, .int .u64 y, .int .i64 s] 28)) := (Below.refl _ _).alloc (Nat.le_refl _) _
        have hz1 : wr.heap.size < (wr.alloc (.cells #[.int .i64 3, .int .i64 p, .int .i64 q, .int .u64 v, .int .u64 x, .int .u64 y, .int .i64 s] 28)).heap.size := by simp
        go_upto_region 5 with fail
        generalize wr.alloc (.cells #[.int .i64 3, .int .i64 p, .int .i64 q, .int .u64 v, .int .u64 x, .int .u64 y, .int .i64 s] 28) = w1 at BF Z1 hz1 ⊢
        have B1 := Lib.hid (hB.out.below Z1 hlt0)
        have ZZ := Lib.hid (hZ.out.trans (Z1.mono hZ.out.size))
        obtain ⟨d0, d1, d2, d3, d4, d5, d6⟩ := BF.out.cells
        have ld := BF.out.lt
        have hc3 : (n : Int) ≤ (c : Int) := by omega
        have hc4 : ((j + 1 : Nat) : Int) ≤ (n : Int) := by omega
        have hc5 : (0 : Int) ≤ ((j + 1 : Nat) : Int) := by omega
        have hc6 : IntKind.i64.wrap ((j : Int) + 1) = ((j + 1 : Nat) : Int) := by rw [IntKind.wrap_i64]; omega
        obtain ⟨A', hA', hP'⟩ : ∃ A' : Option Addr, (if n = j + 1 then (some ⟨b, off, none⟩ : Option Addr) else some ⟨b, off + (j + 1) * 7, none⟩) = A' ∧ Hid (Pr lo wr A' (l.drop (j + 1))) := by
          refine ⟨_, rfl, Lib.hid ?_⟩
          split
          · rw [List.drop_eq_nil_of_le (by rw [HN.out]; omega)]; exact Pr.nil _ _ _
          · have := HP.out.part (j + 1) l.length
            rw [List.take_of_length_le (by simp)] at this
            exact this
        have HPZ := Lib.hid (hP'.out.below (Z1.mono (Nat.le_trans HLO.out hZ.out.size)))
        clear a0 a1 a2 a3 a4 a5 a6 Z1 hz1 hZ hB
        go_wp2
        go_region_with (go_at_call 25; (refine (begin_any 3 i v _).mono ?_); rintro _ w2 ⟨rfl, z2⟩; have zz : Below w1.heap.size w1 w2 := (Below.refl _ _).drew.trans z2; have BR := B1.out.drew.below z2 B1.out.drew.lt; obtain ⟨r0, r1, r2, r3, r4, r5, r6⟩ := BR.cells; have lr := BR.lt; have fr := BR.free)
        all_goals
          go_wp2
          change bodyPost _ _ _ _ _ (pf w2 w.heap.size (fbg 3 i v))
          refine bodyPost_ret (v := .tuple #[fv (fbg 3 i v), .slice A' (n - (j + 1)) (n - (j + 1))]) ?_ rfl ?_
          · obtain ⟨e0, e1, e2, e3, e4, e5, e6⟩ := (BR.pf (fbg 3 i v)).cells
            simp [results, Try.results39, go_sem, e0, e1, e2, e3, e4, e5, e6]
            try rfl
          · exact next_fin HX.out HN.out (HPZ.out.below (zz.mono (Nat.le_trans HLO.out ZZ.out.size))) (Nat.le_refl _) (ZZ.out.trans (zz.mono ZZ.out.size)) HLO.out _
      by_cases h4 : o = 4
      · subst h4
        have HX := hXt (.inr rfl)
        clear hXt hXs
        have BF := Lib.hid (show Bf (wr.alloc (.cells #[.int .i64 4, .int .i64 p, .int .i64 q, .int .u64 v, .int .u64 x, .int .u64 y, .int .i64 s] 28)) wr.heap.size ⟨4, p, q, v, x, y, s⟩ from heap_alloc_new _ _)
        have Z1 : Below wr.heap.size wr (wr.alloc (.cells #[.int .i64 4, .int .i64 p, .int .i64 q, .int .u64 v, .int .u64 x, .int .u64 y, .int .i64 s] 28)) := (Below.refl _ _).alloc (Nat.le_refl _) _
        have hz1 : wr.heap.size < (wr.alloc (.cells #[.int .i64 4, .int .i64 p, .int .i64 q, .int .u64 v, .int .u64 x, .int .u64 y, .int .i64 s] 28)).heap.size := by simp
        go_upto_region 5 with fail
        generalize wr.alloc (.cells #[.int .i64 4, .int .i64 p, .int .i64 q, .int .u64 v, .int .u64 x, .int .u64 y, .int .i64 s] 28) = w1 at BF Z1 hz1 ⊢
        have B1 := Lib.hid (hB.out.below Z1 hlt0)
        have ZZ := Lib.hid (hZ.out.trans (Z1.mono hZ.out.size))
        obtain ⟨d0, d1, d2, d3, d4, d5, d6⟩ := BF.out.cells
        have ld := BF.out.lt
        have hc3 : (n : Int) ≤ (c : Int) := by omega
        have hc4 : ((j + 1 : Nat) : Int) ≤ (n : Int) := by omega
        have hc5 : (0 : Int) ≤ ((j + 1 : Nat) : Int) := by omega
        have hc6 : IntKind.i64.wrap ((j : Int) + 1) = ((j + 1 : Nat) : Int) := by rw [IntKind.wrap_i64]; omega
        obtain ⟨A', hA', hP'⟩ : ∃ A' : Option Addr, (if n = j + 1 then (some ⟨b, off, none⟩ : Option Addr) else some ⟨b, off + (j + 1) * 7, none⟩) = A' ∧ Hid (Pr lo wr A' (l.drop (j + 1))) := by
          refine ⟨_, rfl, Lib.hid ?_⟩
          split
          · rw [List.drop_eq_nil_of_le (by rw [HN.out]; omega)]; exact Pr.nil _ _ _
          · have := HP.out.part (j + 1) l.length
            rw [List.take_of_length_le (by simp)] at this
            exact this
        have HPZ := Lib.hid (hP'.out.below (Z1.mono (Nat.le_trans HLO.out hZ.out.size)))
        clear a0 a1 a2 a3 a4 a5 a6 Z1 hz1 hZ hB
        go_wp2
        go_region_with (go_at_call 25; (refine (begin_any 4 i v _).mono ?_); rintro _ w2 ⟨rfl, z2⟩; have zz : Below w1.heap.size w1 w2 := (Below.refl _ _).drew.trans z2; have BR := B1.out.drew.below z2 B1.out.drew.lt; obtain ⟨r0, r1, r2, r3, r4, r5, r6⟩ := BR.cells; have lr := BR.lt; have fr := BR.free)
        all_goals
          go_wp2
          change bodyPost _ _ _ _ _ (pf w2 w.heap.size (fbg 4 i v))
          refine bodyPost_ret (v := .tuple #[fv (fbg 4 i v), .slice A' (n - (j + 1)) (n - (j + 1))]) ?_ rfl ?_
          · obtain ⟨e0, e1, e2, e3, e4, e5, e6⟩ := (BR.pf (fbg 4 i v)).cells
            simp [results, Try.results39, go_sem, e0, e1, e2, e3, e4, e5, e6]
            try rfl
          · exact next_fin HX.out HN.out (HPZ.out.below (zz.mono (Nat.le_trans HLO.out ZZ.out.size))) (Nat.le_refl _) (ZZ.out.trans (zz.mono ZZ.out.size)) HLO.out _
      have HX := hXs (by omega)
      clear hXt hXs
      have e3 : (o == 3) = false := by simpa using h3
      have e4 : (o == 4) = false := by simpa using h4
      have BF := Lib.hid (show Bf (wr.alloc (.cells #[.int .i64 o, .int .i64 p, .int .i64 q, .int .u64 v, .int .u64 x, .int .u64 y, .int .i64 s] 28)) wr.heap.size ⟨o, p, q, v, x, y, s⟩ from heap_alloc_new _ _)
      have Z1 : Below wr.heap.size wr (wr.alloc (.cells #[.int .i64 o, .int .i64 p, .int .i64 q, .int .u64 v, .int .u64 x, .int .u64 y, .int .i64 s] 28)) := (Below.refl _ _).alloc (Nat.le_refl _) _
      have hz1 : wr.heap.size < (wr.alloc (.cells #[.int .i64 o, .int .i64 p, .int .i64 q, .int .u64 v, .int .u64 x, .int .u64 y, .int .i64 s] 28)).heap.size := by simp
      go_upto_region 5 with fail
      generalize wr.alloc (.cells #[.int .i64 o, .int .i64 p, .int .i64 q, .int .u64 v, .int .u64 x, .int .u64 y, .int .i64 s] 28) = w1 at BF Z1 hz1 ⊢
      have B1 := Lib.hid (hB.out.below Z1 hlt0)
      have ZZ := Lib.hid (hZ.out.trans (Z1.mono hZ.out.size))
      obtain ⟨d0, d1, d2, d3, d4, d5, d6⟩ := BF.out.cells
      have ld := BF.out.lt
      clear a0 a1 a2 a3 a4 a5 a6 Z1 hz1 hZ hB h3 h4
      go_wp2
      go_roundw
      case rel => exact ⟨j + 1, by go_num, by omega, ZZ, B1, HX⟩
      case measure => simp [intOf]; omega
    · have hje : j = n := by omega
      have HX := Lib.hid (show nxtI i l = (fno, []) by
        rw [hX.out, List.drop_eq_nil_of_le (by rw [HN.out]; omega)]; rfl)
      have d1 : decide ((j : Int) < (n : Int)) = false := decide_eq_false (by omega)
      clear hX
      go_wp2_with fail
      refine (nocall_any _).mono ?_
      rintro _ w2 ⟨rfl, z2⟩
      have BR := hB.out.below z2 hlt0
      have ZR := Lib.hid (hZ.out.trans (z2.mono hZ.out.size))
      obtain ⟨r0, r1, r2, r3, r4, r5, r6⟩ := BR.cells
      have lr := BR.lt
      have fr := BR.free
      clear z2
      go_wp2
      change bodyPost _ _ _ _ _ (pf w2 w.heap.size fno)
      refine bodyPost_ret (v := .tuple #[fv fno, .slice none 0 0]) ?_ rfl ?_
      · obtain ⟨e0, e1, e2, e3, e4, e5, e6⟩ := (BR.pf fno).cells
        simp [results, Try.results39, go_sem, e0, e1, e2, e3, e4, e5, e6]
        try rfl
      · rw [HX.out]
        exact ⟨none, 0, rfl, Nat.le_refl _, Pr.nil _ _ _, below_pf ZR.out (Nat.le_refl _) _⟩
end Go.Proofs.Ytppllanmgdhabaa
