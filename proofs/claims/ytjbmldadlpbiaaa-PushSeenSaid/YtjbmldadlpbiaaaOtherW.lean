/- The walk of PushOther. -/
import Derived.Test.YtjbmldadlpbiaaaPuK
import Derived.Test.YtjbmldadlpbiaaaFrQ
namespace Go.Proofs.Ytjbmldadlpbiaaa
open Go.RowKit Go.Deep
theorem list_L {W D J S x : Int} {A : Option Addr} {n c : Nat} {m : List Int} {w : World} (h : Rd w A m) (hn : m.length = n) {o : Option (List Int)} (e : lst W D J S m x = o) {L : List Int} (hL : o.getD [] = L) {k : Nat} (hk : L.length = k) {b : Bool} (hb : o.isSome = b) :
    Calls Try.prog 14 #[cf W D J S, .slice A n c, .int .i64 x] w fun e w' => ∃ A' c', e = .returned (.tuple #[.slice A' k c', .bool b]) ∧ k ≤ c' ∧ Rd w' A' L ∧ Below w.heap.size w w' := by
  subst hL
  exact list_n h hn e hk hb
theorem lst_len {W D J S x : Int} {m l : List Int} (hu : UM m) (h : lst W D J S m x = some l) : l.length ≤ 16 := by
  have h1 := (lst_some hu h).2.len
  have h2 := (may_lim (okw_iff.1 (lst_some hu h).1).1).2.1
  omega
theorem lst_len0 {W D J S x : Int} {m : List Int} (hu : UM m) : ((lst W D J S m x).getD []).length ≤ 16 := by
  cases h : lst W D J S m x with
  | none => simp
  | some l => simpa using lst_len hu h
theorem other_big (W D J S a v k : Int) (A : Option Addr) (n c : Nat) (w : World) (hn : 500 < n) : Tells 6 #[cf W D J S, .slice A n c, .int .i64 a, .int .u64 v, .int .i64 k] w (.bool true) := by
  have hd : decide ((500 : Int) < (n : Int)) = true := decide_eq_true (by omega)
  go_enter Try.func6, Try.ntmps6
  go_wp2_with fail
  refine (awake_any _).mono ?_
  rintro _ w1 ⟨rfl, z⟩
  have Z := Lib.hid ((box_below w _).trans (z.mono (by simp)))
  clear z
  go_wp2
  go_ret
  exact ⟨rfl, Z.out⟩
theorem other_same (W D J S a v k : Int) (A : Option Addr) (n c : Nat) (w : World) (hn : n ≤ 500) (hk : k = a) : Tells 6 #[cf W D J S, .slice A n c, .int .i64 a, .int .u64 v, .int .i64 k] w (.bool true) := by
  have hd : decide ((500 : Int) < (n : Int)) = false := decide_eq_false (by omega)
  have hka : (k == a) = true := by simp [hk]
  clear hk
  go_enter Try.func6, Try.ntmps6
  go_wp2_with fail
  refine (awake_any _).mono ?_
  rintro _ w1 ⟨rfl, z⟩
  have Z := Lib.hid ((box_below w _).trans (z.mono (by simp)))
  clear z
  go_wp2
  go_ret
  exact ⟨rfl, Z.out⟩
set_option maxHeartbeats 1000000 in
theorem other_main (W D J S a v k : Int) (A : Option Addr) (n c : Nat) (m : List Int) (w : World) (hm : Rd w A m) (hn : m.length = n) (hs : n ≤ 500) (hu : UM m) (hv : U v) (hk : ¬ k = a) : Tells 6 #[cf W D J S, .slice A n c, .int .i64 a, .int .u64 v, .int .i64 k] w (.bool true) := by
  have hd : decide ((500 : Int) < (n : Int)) = false := decide_eq_false (by omega)
  have hka : (k == a) = false := by simp [hk]
  have HU := Lib.hid (fun k => pushN_U (W := W) (D := D) (J := J) (S := S) (s := (m, fbg 0 a v)) hu ⟨hv, U0, U0⟩ k)
  have HPL := Lib.hid (fun k => (pushN_len W D J S k (m, fbg 0 a v)).trans hn)
  have hlen := lst_len0 (W := W) (D := D) (J := J) (S := S) (x := k) hu
  have hoth := pushN_other (W := W) (D := D) (J := J) (S := S) (m := m) (f := fbg 0 a v) (k := k) hk 4
  obtain ⟨o, ho⟩ : ∃ o, lst W D J S m k = o := ⟨_, rfl⟩
  rw [ho] at hlen hoth
  obtain ⟨L, hL⟩ : ∃ L, o.getD [] = L := ⟨_, rfl⟩
  obtain ⟨B, hB⟩ : ∃ B, o.isSome = B := ⟨_, rfl⟩
  rw [hL] at hlen
  have HO := Lib.hid ho
  have EL := Lib.hid hoth
  have HL := Lib.hid hL
  have HB := Lib.hid hB
  have HLEN := Lib.hid hlen
  have LM := Lib.hid hm
  clear ho hoth hL hB hlen hm hu hv hk
  go_enter Try.func6, Try.ntmps6
  go_wp2_with fail
  refine (awake_any _).mono ?_
  rintro _ w1 ⟨rfl, z⟩
  have BX := Lib.hid ((Bx.mk w W D J S 23).below z)
  replace z := (box_below w _).trans (z.mono (by simp))
  have Z := Lib.hid z
  replace LM := Lib.hid (LM.out.below z)
  clear z
  obtain ⟨gx, x_0, x_1, x_2, x_3⟩ := BX.out
  go_wp2_with fail
  refine (list_L LM.out hn HO.out HL.out rfl HB.out).mono ?_
  rintro _ w2 ⟨A2, c2, rfl, hc2, hr2, z⟩
  clear gx x_0 x_1 x_2 x_3
  replace Z := Lib.hid (Z.out.trans (z.mono Z.out.size))
  replace BX := Lib.hid (BX.out.below z)
  replace LM := Lib.hid (LM.out.below z)
  have LL := Lib.hid hr2
  clear z hr2 hc2
  go_wp2_with fail
  refine (begin_any 0 a v _).mono ?_
  rintro _ w3 ⟨rfl, z⟩
  replace Z := Lib.hid (Z.out.trans (z.mono Z.out.size))
  replace BX := Lib.hid (BX.out.below z)
  replace LM := Lib.hid (LM.out.below z)
  replace LL := Lib.hid (LL.out.below z)
  clear z
  have hgf := Lib.hid (show w.heap.size < w3.heap.size from BX.out.1)
  have hzf := Lib.hid Z.out.size
  replace LL := Lib.hid (LL.out.rx (g := w3.heap.size) (Nat.le_refl _))
  obtain ⟨ws, hws⟩ : ∃ ws, ws = w3.alloc (.cells #[.int .i64 (fbg 0 a v).op, .int .i64 (fbg 0 a v).pc, .int .i64 (fbg 0 a v).who, .int .u64 (fbg 0 a v).val, .int .u64 (fbg 0 a v).x, .int .u64 (fbg 0 a v).y, .int .i64 (fbg 0 a v).res] 28) := ⟨_, rfl⟩
  have hz := box_below w3 (.cells #[.int .i64 (fbg 0 a v).op, .int .i64 (fbg 0 a v).pc, .int .i64 (fbg 0 a v).who, .int .u64 (fbg 0 a v).val, .int .u64 (fbg 0 a v).x, .int .u64 (fbg 0 a v).y, .int .i64 (fbg 0 a v).res] 28)
  rw [← hws] at hz
  have BF := Lib.hid (show Bf ws w3.heap.size (fbg 0 a v) by rw [hws]; exact Bf.new w3 (fbg 0 a v))
  have HBX := Lib.hid (Nat.ne_of_lt hgf.out)
  replace BX := Lib.hid (BX.out.below hz)
  replace LM := Lib.hid (LM.out.below hz)
  replace LL := Lib.hid (LL.out.after hz)
  replace Z := Lib.hid (Z.out.trans (hz.mono Z.out.size))
  have HBB := Lib.hid BF.out.lt
  have HW := Lib.hid hws
  clear hz hws
  go_wp2
  go_loopw [16, 15] (fun i s wr => ∃ (j : Nat) (A : Option Addr) (c : Nat), i = .int .i64 j ∧ s = .slice A n c ∧ j ≤ 4 ∧ Hid (Rd wr A (pushN W D J S j (m, fbg 0 a v)).1) ∧ Hid (Bf wr w3.heap.size (pushN W D J S j (m, fbg 0 a v)).2) ∧ Hid (Kb w3.heap.size ws wr)) (fun i _ _ => 4 - (intOf i).toNat)
  case atStart =>
    obtain rfl := HW.out
    exact ⟨0, A, c, rfl, rfl, by omega, LM, BF, Lib.hid (Kb.refl _ _)⟩
  case round =>
    clear BF LM
    obtain ⟨j, A, c, rfl, rfl, hj, LA, BF, KB⟩ := hrel
    by_cases hlt : j < 4
    · have HUj := Lib.hid (HU.out j).2
      have HLj := Lib.hid (HPL.out j)
      have HE := Lib.hid (pushN_succ W D J S j (m, fbg 0 a v))
      generalize (pushN W D J S j (m, fbg 0 a v)).1 = M at *
      generalize (pushN W D J S j (m, fbg 0 a v)).2 = F at *
      obtain ⟨M', F', HP⟩ : ∃ M' F', Hid (pushS W D J S M F = (M', F')) := ⟨_, _, Lib.hid rfl⟩
      obtain ⟨_, b0, b1, b2, b3⟩ := BX.out.kb KB.out HBX.out
      obtain ⟨d0, d1, d2, d3, d4, d5, d6⟩ := BF.out.cells
      have lBF := BF.out.lt
      have lBX := (BX.out.kb KB.out HBX.out).1
      go_wp2_with fail
      refine (step_n LA.out HLj.out hs HUj.out HP.out).mono ?_
      rintro _ w7 ⟨A', c', rfl, hn7, z⟩
      have BF3 := BF.out.after z
      clear b0 b1 b2 b3 d0 d1 d2 d3 d4 d5 d6 lBF lBX
      obtain ⟨d0, d1, d2, d3, d4, d5, d6⟩ := BF3.cells
      have fz := BF3.free
      have lBF := BF3.lt
      have HN := Lib.hid (hn7.pf BF.out.lt F')
      have HB3 := Lib.hid (BF3.pf F')
      have HK3 := Lib.hid ((KB.out.call HBB.out z).pf F')
      clear hn7 BF3 z
      go_wp2_with fail
      go_roundw
      case rel => exact ⟨j + 1, A', c', by go_num, rfl, by omega, by rw [HE.out, HP.out]; exact Lib.hid HN.out.rd, by rw [HE.out, HP.out]; exact HB3, HK3⟩
      case measure => simp [intOf]; omega
    · obtain rfl : j = 4 := by omega
      replace BX := Lib.hid (BX.out.kb KB.out HBX.out)
      replace LL := Lib.hid (LL.out.kb KB.out)
      replace Z := Lib.hid (Z.out.trans (KB.out.low.mono hzf.out))
      clear KB HBB HW hj hlt
      obtain ⟨gx, x_0, x_1, x_2, x_3⟩ := BX.out
      go_wp2_with fail
      refine (list_L LA.out (HPL.out 4) EL.out HL.out rfl HB.out).mono ?_
      rintro _ w8 ⟨A8, c8, rfl, hc8, hr8, z⟩
      clear gx x_0 x_1 x_2 x_3
      replace Z := Lib.hid (Z.out.trans (z.mono Z.out.size))
      replace BX := Lib.hid (BX.out.below z)
      replace LL := Lib.hid (LL.out.after z)
      replace BF := Lib.hid (BF.out.after z)
      replace LA := Lib.hid (LA.out.below z)
      have LQ := Lib.hid hr8
      clear z hr8 hc8
      go_wp2_with fail
      refine (nums_eq LQ.out LL.out.rd rfl (by have := HLEN.out; omega)).mono ?_
      rintro _ w9 ⟨rfl, q9, hq⟩
      have z := below_of_drewN hq
      clear hq
      replace Z := Lib.hid (Z.out.trans (z.mono Z.out.size))
      replace BX := Lib.hid (BX.out.below z)
      replace LL := Lib.hid (LL.out.after z)
      replace BF := Lib.hid (BF.out.after z)
      replace LA := Lib.hid (LA.out.below z)
      replace LQ := Lib.hid (LQ.out.below z)
      clear z
      go_wp2
      go_ret
      exact ⟨rfl, Z.out⟩
theorem other_walk (W D J S a v k : Int) (A : Option Addr) (n c : Nat) (m : List Int) (w : World) (hm : Rd w A m) (hn : m.length = n) (hu : UM m) (hv : U v) : Tells 6 #[cf W D J S, .slice A n c, .int .i64 a, .int .u64 v, .int .i64 k] w (.bool true) := by
  by_cases hs : n ≤ 500
  · by_cases hk : k = a
    · exact other_same W D J S a v k A n c w hs hk
    · exact other_main W D J S a v k A n c m w hm hn hs hu hv hk
  · exact other_big W D J S a v k A n c w (by omega)
end Go.Proofs.Ytjbmldadlpbiaaa
