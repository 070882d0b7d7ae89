/- The walk of EnqOther. -/
import Derived.Test.YtoneifkpjmkokaaEnF
import Derived.Test.YtoneifkpjmkokaaPuL
namespace Go.Proofs.Ytoneifkpjmkokaa
open Go.RowKit Go.Deep
/-- Putting in turns no cell of a worker's. -/
theorem enqS_high {W D J S : Int} {m : List Int} {f : Fr} {k : Int} (hk : 6 + 2 * J ≤ k) : at0 (enqS W D J S m f).1 k = at0 m k := by
  by_cases hg : goesE W D J S m f 3 = true
  · obtain ⟨hk2, hr, ho, h0, h4⟩ := goesE_iff.1 hg
    obtain ⟨hm, hlen⟩ := okm_iff.1 hk2
    obtain ⟨hW, hD, hJ, hS⟩ := may_lim hm
    have hv := vl_lim hJ.1 f.x
    have hq := sq_lim hJ.1 f.x
    unfold enqS
    rw [if_pos hg]
    split
    · rfl
    · split
      · split
        · rfl
        · split <;> rfl
      · split
        · split
          · dsimp only; exact at0_put_ne _ _ (by omega)
          · rfl
        · split
          · dsimp only; exact at0_put_ne _ _ (by omega)
          · dsimp only; exact at0_put_ne _ _ (by omega)
  · unfold enqS
    rw [if_neg hg]
theorem enqN_high {W D J S : Int} {s : List Int × Fr} {k : Int} (hk : 6 + 2 * J ≤ k) (j : Nat) : at0 (itN (enqS W D J S) j s).1 k = at0 s.1 k := by
  induction j with
  | zero => rfl
  | succ j ih => rw [itN_succ, enqS_high hk]; exact ih
/-- So it turns no deque's list. -/
theorem lst_high {W D J S : Int} {m m' : List Int} {x : Int} (hl : m'.length = m.length) (h : ∀ k : Int, 6 + 2 * J ≤ k → at0 m' k = at0 m k) : lst W D J S m' x = lst W D J S m x := by
  by_cases hk : okw W D J S m x = true
  · obtain ⟨hm, hlen, h0, hW2⟩ := okw_iff.1 hk
    obtain ⟨hW, hD, hJ, hS⟩ := may_lim hm
    have hb : 6 + 2 * J ≤ bg D J x := by
      unfold bg
      have : 0 ≤ x * (3 + D) := Int.mul_nonneg h0 (by omega)
      omega
    have e0 := h (bg D J x) hb
    have e1 := h (bg D J x + 1) (by omega)
    unfold lst
    rw [okw_len hl, e0, e1]
    split
    · congr 1
      apply List.map_congr_left
      intro i _
      have := sI_lim (J := J) (w := x) hD.1 (at0 m (bg D J x) + i)
      exact h _ (by omega)
    · rfl
  · have hk2 : ¬ okw W D J S m' x = true := by rw [okw_len hl]; exact hk
    unfold lst
    rw [if_neg (fun h => hk2 h.1), if_neg (fun h => hk h.1)]
theorem other_big (W D J S v a : Int) (A : Option Addr) (n c : Nat) (w : World) (hn : 500 < n) : Tells 6 #[cf W D J S, .slice A n c, .int .u64 v, .int .i64 a] w (.bool true) := by
  have hd : decide ((500 : Int) < (n : Int)) = true := decide_eq_true (by omega)
  go_enter Try.func6, Try.ntmps6
  go_wp2_with fail
  refine (awake_any _).mono ?_
  rintro _ w1 ⟨rfl, z⟩
  have Z := Lib.hid ((box_below w _).trans (z.mono (by simp)))
  clear z
  go_wp2
  go_ret
  exact ⟨rfl, Z.out⟩
set_option maxHeartbeats 1000000 in
theorem other_main (W D J S v a : Int) (A : Option Addr) (n c : Nat) (m : List Int) (w : World) (hm : Rd w A m) (hn : m.length = n) (hs : n ≤ 500) (hu : UM m) (hv : U v) : Tells 6 #[cf W D J S, .slice A n c, .int .u64 v, .int .i64 a] w (.bool true) := by
  have hd : decide ((500 : Int) < (n : Int)) = false := decide_eq_false (by omega)
  have HU := Lib.hid (fun k => enqN_U (W := W) (D := D) (J := J) (S := S) (s := (m, fbg 3 0 v)) hu ⟨hv, U0, U0⟩ k)
  have HPL := Lib.hid (fun k => (enqN_len W D J S k (m, fbg 3 0 v)).trans hn)
  have hlen := lst_len0 (W := W) (D := D) (J := J) (S := S) (x := a) hu
  have hoth : lst W D J S (itN (enqS W D J S) 9 (m, fbg 3 0 v)).1 a = lst W D J S m a := lst_high (enqN_len W D J S 9 (m, fbg 3 0 v)) (fun k hk => enqN_high hk 9)
  obtain ⟨o, ho⟩ : ∃ o, lst W D J S m a = o := ⟨_, rfl⟩
  rw [ho] at hlen hoth
  obtain ⟨L, hL⟩ : ∃ L, o.getD [] = L := ⟨_, rfl⟩
  obtain ⟨B, hB⟩ : ∃ B, o.isSome = B := ⟨_, rfl⟩
  rw [hL] at hlen
  have HO := Lib.hid ho
  have EL := Lib.hid hoth
  have HL := Lib.hid hL
  have HB := Lib.hid hB
  have HLEN := Lib.hid hlen
  have LM := Lib.hid hm
  clear ho hoth hL hB hlen hm hu hv
  go_enter Try.func6, Try.ntmps6
  go_wp2_with fail
  refine (awake_any _).mono ?_
  rintro _ w1 ⟨rfl, z⟩
  have BX := Lib.hid ((Bx.mk w W D J S 23).below z)
  replace z := (box_below w _).trans (z.mono (by simp))
  have Z := Lib.hid z
  replace LM := Lib.hid (LM.out.below z)
  clear z
  obtain ⟨gx, x_0, x_1, x_2, x_3⟩ := BX.out
  go_wp2_with fail
  refine (list_L LM.out hn HO.out HL.out rfl HB.out).mono ?_
  rintro _ w2 ⟨A2, c2, rfl, hc2, hr2, z⟩
  clear gx x_0 x_1 x_2 x_3
  replace Z := Lib.hid (Z.out.trans (z.mono Z.out.size))
  replace BX := Lib.hid (BX.out.below z)
  replace LM := Lib.hid (LM.out.below z)
  have LL := Lib.hid hr2
  clear z hr2 hc2
  go_wp2_with fail
  refine (begin_any 3 0 v _).mono ?_
  rintro _ w3 ⟨rfl, z⟩
  replace Z := Lib.hid (Z.out.trans (z.mono Z.out.size))
  replace BX := Lib.hid (BX.out.below z)
  replace LM := Lib.hid (LM.out.below z)
  replace LL := Lib.hid (LL.out.below z)
  clear z
  have HBX := Lib.hid (Nat.ne_of_lt (show w.heap.size < w3.heap.size from BX.out.1))
  have hzf := Lib.hid Z.out.size
  replace LL := Lib.hid (LL.out.rx (g := w3.heap.size) (Nat.le_refl _))
  obtain ⟨ws, hws⟩ : ∃ ws, ws = w3.alloc (.cells #[.int .i64 (fbg 3 0 v).op, .int .i64 (fbg 3 0 v).pc, .int .i64 (fbg 3 0 v).who, .int .u64 (fbg 3 0 v).val, .int .u64 (fbg 3 0 v).x, .int .u64 (fbg 3 0 v).y, .int .i64 (fbg 3 0 v).res] 28) := ⟨_, rfl⟩
  have hz := box_below w3 (.cells #[.int .i64 (fbg 3 0 v).op, .int .i64 (fbg 3 0 v).pc, .int .i64 (fbg 3 0 v).who, .int .u64 (fbg 3 0 v).val, .int .u64 (fbg 3 0 v).x, .int .u64 (fbg 3 0 v).y, .int .i64 (fbg 3 0 v).res] 28)
  rw [← hws] at hz
  have BF := Lib.hid (show Bf ws w3.heap.size (fbg 3 0 v) by rw [hws]; exact Bf.new w3 (fbg 3 0 v))
  replace BX := Lib.hid (BX.out.below hz)
  replace LM := Lib.hid (LM.out.below hz)
  replace LL := Lib.hid (LL.out.after hz)
  replace Z := Lib.hid (Z.out.trans (hz.mono Z.out.size))
  have HW := Lib.hid hws
  clear hz hws
  have HBB := Lib.hid BF.out.lt
  go_wp2
  go_loopw [14, 13] (fun i s wr => ∃ (j : Nat) (A : Option Addr) (c : Nat), i = .int .i64 j ∧ s = .slice A n c ∧ j ≤ 9 ∧ Hid (Rd wr A (itN (enqS W D J S) j (m, fbg 3 0 v)).1) ∧ Hid (Bf wr w3.heap.size (itN (enqS W D J S) j (m, fbg 3 0 v)).2) ∧ Hid (Kb w3.heap.size ws wr)) (fun i _ _ => 9 - (intOf i).toNat)
  case atStart =>
    obtain rfl := HW.out
    exact ⟨0, A, c, rfl, rfl, by omega, LM, BF, Lib.hid (Kb.refl _ _)⟩
  case round =>
    clear BF LM
    obtain ⟨j, A, c, rfl, rfl, hj, LA, BF, KB⟩ := hrel
    by_cases hlt : j < 9
    · have HUj := Lib.hid (HU.out j).2
      have HLj := Lib.hid (HPL.out j)
      have HE := Lib.hid (itN_succ (enqS W D J S) j (m, fbg 3 0 v))
      generalize (itN (enqS W D J S) j (m, fbg 3 0 v)).1 = M at *
      generalize (itN (enqS W D J S) j (m, fbg 3 0 v)).2 = F at *
      obtain ⟨M', F', HP⟩ : ∃ M' F', Hid (enqS W D J S M F = (M', F')) := ⟨_, _, Lib.hid rfl⟩
      obtain ⟨_, b0, b1, b2, b3⟩ := BX.out.kb KB.out HBX.out
      obtain ⟨d0, d1, d2, d3, d4, d5, d6⟩ := BF.out.cells
      have lBF := BF.out.lt
      have lBX := (BX.out.kb KB.out HBX.out).1
      go_wp2_with fail
      refine (enq_n LA.out HLj.out hs HUj.out HP.out).mono ?_
      rintro _ w7 ⟨A', c', rfl, hn7, z⟩
      have BF3 := BF.out.after z
      clear b0 b1 b2 b3 d0 d1 d2 d3 d4 d5 d6 lBF lBX
      obtain ⟨d0, d1, d2, d3, d4, d5, d6⟩ := BF3.cells
      have fz := BF3.free
      have lBF := BF3.lt
      have HN := Lib.hid (hn7.pf BF.out.lt F')
      have HB3 := Lib.hid (BF3.pf F')
      have HK3 := Lib.hid ((KB.out.call HBB.out z).pf F')
      clear hn7 BF3 z
      go_wp2_with fail
      go_roundw
      case rel => exact ⟨j + 1, A', c', by go_num, rfl, by omega, by rw [HE.out, HP.out]; exact Lib.hid HN.out.rd, by rw [HE.out, HP.out]; exact HB3, HK3⟩
      case measure => simp [intOf]; omega
    · obtain rfl : j = 9 := by omega
      replace BX := Lib.hid (BX.out.kb KB.out HBX.out)
      replace LL := Lib.hid (LL.out.kb KB.out)
      replace Z := Lib.hid (Z.out.trans (KB.out.low.mono hzf.out))
      clear KB HBB hj hlt HW
      obtain ⟨gx, x_0, x_1, x_2, x_3⟩ := BX.out
      go_wp2_with fail
      refine (list_L LA.out (HPL.out 9) EL.out HL.out rfl HB.out).mono ?_
      rintro _ w8 ⟨A8, c8, rfl, hc8, hr8, z⟩
      clear gx x_0 x_1 x_2 x_3
      replace Z := Lib.hid (Z.out.trans (z.mono Z.out.size))
      replace BX := Lib.hid (BX.out.below z)
      replace LL := Lib.hid (LL.out.after z)
      replace BF := Lib.hid (BF.out.after z)
      replace LA := Lib.hid (LA.out.below z)
      have LQ := Lib.hid hr8
      clear z hr8 hc8
      go_wp2_with fail
      refine (nums_eq LQ.out LL.out.rd rfl (by have := HLEN.out; omega)).mono ?_
      rintro _ w9 ⟨rfl, q9, hq⟩
      have z := below_of_drewN hq
      clear hq
      replace Z := Lib.hid (Z.out.trans (z.mono Z.out.size))
      replace BX := Lib.hid (BX.out.below z)
      replace LL := Lib.hid (LL.out.after z)
      replace BF := Lib.hid (BF.out.after z)
      replace LA := Lib.hid (LA.out.below z)
      replace LQ := Lib.hid (LQ.out.below z)
      clear z
      have hbb : (B == B) = true := by simp
      go_wp2
      go_ret
      exact ⟨rfl, Z.out⟩
theorem other_walk (W D J S v a : Int) (A : Option Addr) (n c : Nat) (m : List Int) (w : World) (hm : Rd w A m) (hn : m.length = n) (hu : UM m) (hv : U v) : Tells 6 #[cf W D J S, .slice A n c, .int .u64 v, .int .i64 a] w (.bool true) := by
  by_cases hs : n ≤ 500
  · exact other_main W D J S v a A n c m w hm hn hs hu hv
  · exact other_big W D J S v a A n c w (by omega)
end Go.Proofs.Ytoneifkpjmkokaa
