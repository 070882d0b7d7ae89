/- awake and alone of poacherlaw15. -/
import Derived.Test.YtjddglandcpfpaaNtD
import Derived.Test.YtjddglandcpfpaaPuH2
import Derived.Test.YtjddglandcpfpaaPuL
import Derived.Deep.RegionHeld3
import Derived.Deep.CutRange
import Derived.Deep.DeepCutAuto
namespace Go.Proofs.Ytjddglandcpfpaa
open Go.RowKit Go.Deep
def en1 : List Int := [0, 0, 65536, 0, 0, 0, 0, 0, 0, 0, 0, 0]
def en2 : List Int := [0, 0, 327681, 0, 0, 0, 0, 0, 0, 0, 0, 0]
def en3 : List Int := [0, 0, 393216, 0, 0, 0, 0, 0, 0, 0, 0, 0]
def en4 : List Int := [0, 0, 393216, 0, 0, 0, 0, 0, 0, 0, 1, 0]
theorem ent1 : itN (noteS 1 1 1 0) 2 (ex0, fbg 6 0 0) = (en1, ⟨6, 0, 0, 0, 0, 0, 3⟩) :=
  Prod.ext (by decide +kernel) (fr_ext (by decide +kernel) (by decide +kernel) (by decide +kernel) (by decide +kernel) (by decide +kernel) (by decide +kernel) (by decide +kernel))
theorem ent2 : put en1 2 327681 = en2 := by decide +kernel
theorem enpk : pk 5 1 = 327681 := by decide +kernel
theorem ent3 : itN (noteS 1 1 1 0) 2 (en2, fbg 7 0 0) = (en3, ⟨7, 2, 0, 0, 327681, 1, 0⟩) :=
  Prod.ext (by decide +kernel) (fr_ext (by decide +kernel) (by decide +kernel) (by decide +kernel) (by decide +kernel) (by decide +kernel) (by decide +kernel) (by decide +kernel))
theorem ent4 : noteS 1 1 1 0 en3 ⟨7, 2, 0, 0, 327681, 1, 0⟩ = (en4, ⟨7, 0, 0, 1, 0, 0, 1⟩) :=
  Prod.ext (by decide +kernel) (fr_ext (by decide +kernel) (by decide +kernel) (by decide +kernel) (by decide +kernel) (by decide +kernel) (by decide +kernel) (by decide +kernel))
theorem eno : owesN ⟨7, 2, 0, 0, 327681, 1, 0⟩ 0 = true := by decide +kernel
theorem enw : ow 1 1 1 0 0 2 = 10 := by decide +kernel
theorem eng : goesN 1 1 1 0 en4 (fbg 6 0 0) = true := by decide +kernel
theorem enl1 : at0 en1 2 = 65536 := by decide +kernel
theorem enl4 : at0 en4 10 = 1 := by decide +kernel
theorem U1 : U 1 := by unfold U; omega
theorem en_len (k : Nat) (f : Fr) (l : List Int) (h : l.length = 12) : (itN (noteS 1 1 1 0) k (l, f)).1.length = 12 := (noteN_len _ _ _ _ _ _).trans h
theorem itN_succ' (g : List Int → Fr → List Int × Fr) (k : Nat) (s : List Int × Fr) : itN g (k + 1) s = g (itN g k s).1 (itN g k s).2 := rfl
theorem UM_of {l : List Int} (h : l.all (fun u => decide (0 ≤ u) && decide (u < 18446744073709551616)) = true) : UM l := fun u hu => by
  have := List.all_eq_true.1 h u hu
  simp only [Bool.and_eq_true, decide_eq_true_eq] at this
  exact this
theorem en_U1 (k : Nat) : UM (itN (noteS 1 1 1 0) k (ex0, fbg 6 0 0)).1 ∧ UF (itN (noteS 1 1 1 0) k (ex0, fbg 6 0 0)).2 := noteN_U (s := (ex0, fbg 6 0 0)) (UM_of (by decide +kernel)) ⟨U0, U0, U0⟩ k
theorem en_U2 (k : Nat) : UM (itN (noteS 1 1 1 0) k (en2, fbg 7 0 0)).1 ∧ UF (itN (noteS 1 1 1 0) k (en2, fbg 7 0 0)).2 := noteN_U (s := (en2, fbg 7 0 0)) (UM_of (by decide +kernel)) ⟨U0, U0, U0⟩ k
theorem en_F2 : UF ⟨7, 2, 0, 0, 327681, 1, 0⟩ := ⟨U0, (show U 327681 by unfold U; omega), U1⟩
set_option maxHeartbeats 2000000 in
/-- alone: so many steps as itN says, the cells are as many as before. -/
theorem alone_n {W D J S : Int} {A : Option Addr} {n c : Nat} {m : List Int} {f : Fr} {w : World} (h : Rd w A m) (hn : m.length = n) (hs : n ≤ 500) (hu : UM m) (hf : UF f) {l' : List Int} {f' : Fr} (e : itN (noteS W D J S) 20 (m, f) = (l', f')) :
    Calls Try.prog 15 #[cf W D J S, .slice A n c, fv f] w fun e w' => ∃ A' c', e = .returned (.tuple #[.slice A' n c', fv f']) ∧ Rn w.heap.size w' A' l' ∧ Below w.heap.size w w' := by
  obtain ⟨BX0, BF0, B00, Z0, hz⟩ := boxes3 w W D J S f
  have HU := Lib.hid (fun j => noteN_U (W := W) (D := D) (J := J) (S := S) (s := (m, f)) hu hf j)
  have HPL := Lib.hid (fun j => (noteN_len W D J S j (m, f)).trans hn)
  have HE20 := Lib.hid e
  have LM0 := Lib.hid (h.rx (g := w.heap.size + 1 + 1) (by omega))
  have LM := Lib.hid (LM0.out.after Z0)
  clear h hu hf e LM0
  go_enter Try.func15, Try.ntmps15
  go_upto_region 1 with fail
  change Code.wp _ _ _ _ (bx3 w W D J S f)
  generalize bx3 w W D J S f = w0 at BX0 BF0 B00 Z0 hz LM ⊢
  have BX := Lib.hid BX0
  have BF := Lib.hid BF0
  have B0 := Lib.hid B00
  have Z := Lib.hid Z0
  have HBX := Lib.hid (show w.heap.size ≠ w.heap.size + 1 by omega)
  have HB0 := Lib.hid (show w.heap.size + 1 + 1 ≠ w.heap.size + 1 by omega)
  have HBB := Lib.hid BF0.lt
  have HSZ := Lib.hid hz
  clear BX0 BF0 B00 Z0 hz
  go_wp2
  go_loopw [8, 1] (fun i s wr => ∃ (j : Nat) (A : Option Addr) (c : Nat), i = .int .i64 j ∧ s = .slice A n c ∧ j ≤ 20 ∧ Hid (∃ lo, (0 < j → w.heap.size ≤ lo) ∧ Rx lo (w.heap.size + 1 + 1) wr A (itN (noteS W D J S) j (m, f)).1) ∧ Hid (Bf wr (w.heap.size + 1) (itN (noteS W D J S) j (m, f)).2) ∧ Hid (Kb (w.heap.size + 1) w0 wr)) (fun i _ _ => 20 - (intOf i).toNat)
  case atStart =>
    exact ⟨0, A, c, rfl, rfl, by omega, Lib.hid ⟨0, fun h => by omega, LM.out⟩, BF, Lib.hid (Kb.refl _ _)⟩
  case round =>
    clear BF LM
    obtain ⟨j, A, c, rfl, rfl, hj, ⟨lo, hlo0, hA⟩, BF, KB⟩ := hrel
    have LA := Lib.hid hA
    clear hA
    by_cases hlt : j < 20
    · have HUj := Lib.hid (HU.out j).2
      have HLj := Lib.hid (HPL.out j)
      have HE := Lib.hid (itN_succ' (noteS W D J S) j (m, f))
      clear HE20
      generalize (itN (noteS W D J S) j (m, f)).1 = M at *
      generalize (itN (noteS W D J S) j (m, f)).2 = F at *
      obtain ⟨M', F', HP⟩ : ∃ M' F', Hid (noteS W D J S M F = (M', F')) := ⟨_, _, Lib.hid rfl⟩
      obtain ⟨_, b0, b1, b2, b3⟩ := BX.out.kb KB.out HBX.out
      obtain ⟨d0, d1, d2, d3, d4, d5, d6⟩ := BF.out.cells
      have lBF := BF.out.lt
      have lB0 := (B0.out.kb KB.out HB0.out).lt
      have hlo : w.heap.size ≤ wr.heap.size := by omega
      clear hlo0
      go_wp2_with fail
      refine (note_n LA.out.rd HLj.out hs HUj.out HP.out).mono ?_
      rintro _ w7 ⟨A', c', rfl, hn7, z⟩
      have BF3 := BF.out.after z
      clear b0 b1 b2 b3 d0 d1 d2 d3 d4 d5 d6 lBF
      obtain ⟨d0, d1, d2, d3, d4, d5, d6⟩ := BF3.cells
      have fz := BF3.free
      have lBF := BF3.lt
      have HN := Lib.hid ((hn7.pf BF.out.lt F').rx (lo := w.heap.size) (g := w.heap.size + 1 + 1) hlo (.inl lB0))
      have HB3 := Lib.hid (BF3.pf F')
      have HK3 := Lib.hid ((KB.out.call HBB.out z).pf F')
      clear hn7 BF3 z lB0 hlo
      go_wp2_with fail
      go_roundw
      case rel => exact ⟨j + 1, A', c', by go_num, rfl, by omega, Lib.hid ⟨w.heap.size, fun _ => Nat.le_refl _, by rw [HE.out, HP.out]; exact HN.out⟩, by rw [HE.out, HP.out]; exact HB3, HK3⟩
      case measure => simp [intOf]; omega
    · obtain rfl : j = 20 := by omega
      rw [HE20.out] at LA BF
      simp only at LA BF
      replace B0 := Lib.hid (B0.out.kb KB.out HB0.out)
      replace Z := Lib.hid (Z.out.trans (KB.out.low.mono (show w.heap.size ≤ w.heap.size + 1 by omega)))
      have B03 := B0.out
      obtain ⟨a0, a1, a2, a3, a4, a5, a6⟩ := BF.out.cells
      obtain ⟨d0, d1, d2, d3, d4, d5, d6⟩ := B03.cells
      have fz := B03.free
      have hl2 : w.heap.size ≤ w.heap.size + 1 + 1 := by omega
      have HLO := Lib.hid (hlo0 (by omega))
      clear hlo0 HBX HB0 HBB HSZ KB HU HPL hj hlt BX
      go_wp2_with fail
      go_region
      all_goals
        go_wp2
        change bodyPost _ _ _ _ _ (pf wr (w.heap.size + 1 + 1) f').drew
        refine bodyPost_ret (results_fr Try.results15 _ rfl ((B03.pf _).drew)) rfl ?_
        exact ⟨A, c, rfl, (LA.out.pf f').drew.rn.mono HLO.out, (below_pf Z.out hl2 _).drew⟩
set_option maxHeartbeats 2000000 in
theorem awake_any (w : World) : Tells 8 #[] w (.bool true) := by
  have HU1 := Lib.hid en_U1
  have HP1 := Lib.hid (fun k => en_len k (fbg 6 0 0) ex0 rfl)
  have HU2 := Lib.hid en_U2
  have HP2 := Lib.hid (fun k => en_len k (fbg 7 0 0) en2 rfl)
  go_enter Try.func8, Try.ntmps8
  go_wp2_with fail
  refine (new_at 1 1 1 0 12 _ (by rfl) (by omega)).mono ?_
  rintro _ w1 ⟨A1, c1, rfl, hr, z⟩
  have BX := Lib.hid ((Bx.mk w 1 1 1 0 23).below z)
  have Z := Lib.hid ((box_below w _).trans (z.mono (by simp)))
  have LM := Lib.hid hr
  clear z hr
  go_wp2_with fail
  refine (begin_any 6 0 0 _).mono ?_
  rintro _ w2 ⟨rfl, z⟩
  replace Z := Lib.hid (Z.out.trans (z.mono Z.out.size))
  replace BX := Lib.hid (BX.out.below z)
  replace LM := Lib.hid (LM.out.below z)
  clear z
  have HBX := Lib.hid (Nat.ne_of_lt BX.out.1)
  have hzf := Lib.hid Z.out.size
  obtain ⟨ws, hws⟩ : ∃ ws, ws = w2.alloc (.cells #[.int .i64 (fbg 6 0 0).op, .int .i64 (fbg 6 0 0).pc, .int .i64 (fbg 6 0 0).who, .int .u64 (fbg 6 0 0).val, .int .u64 (fbg 6 0 0).x, .int .u64 (fbg 6 0 0).y, .int .i64 (fbg 6 0 0).res] 29) := ⟨_, rfl⟩
  have hz := box_below w2 (.cells #[.int .i64 (fbg 6 0 0).op, .int .i64 (fbg 6 0 0).pc, .int .i64 (fbg 6 0 0).who, .int .u64 (fbg 6 0 0).val, .int .u64 (fbg 6 0 0).x, .int .u64 (fbg 6 0 0).y, .int .i64 (fbg 6 0 0).res] 29)
  rw [← hws] at hz
  have BF := Lib.hid (show Bf ws w2.heap.size (fbg 6 0 0) by rw [hws]; exact Bf.new w2 (fbg 6 0 0))
  replace BX := Lib.hid (BX.out.below hz)
  replace LM := Lib.hid (LM.out.below hz)
  replace Z := Lib.hid (Z.out.trans (hz.mono Z.out.size))
  have HW := Lib.hid hws
  clear hz hws
  have HBB := Lib.hid BF.out.lt
  go_wp2
  go_loopw [4, 2] (fun i s wr => ∃ (j : Nat) (A : Option Addr) (c : Nat), i = .int .i64 j ∧ s = .slice A 12 c ∧ j ≤ 2 ∧ Hid (Rd wr A (itN (noteS 1 1 1 0) j (ex0, fbg 6 0 0)).1) ∧ Hid (Bf wr w2.heap.size (itN (noteS 1 1 1 0) j (ex0, fbg 6 0 0)).2) ∧ Hid (Kb w2.heap.size ws wr)) (fun i _ _ => 2 - (intOf i).toNat)
  case atStart =>
    obtain rfl := HW.out
    exact ⟨0, A1, c1, rfl, rfl, by omega, LM, BF, Lib.hid (Kb.refl _ _)⟩
  case round =>
    clear BF LM
    obtain ⟨j, Am, cm, rfl, rfl, hj, LA, BF, KB⟩ := hrel
    by_cases hlt : j < 2
    · have HUj := Lib.hid (HU1.out j).2
      have HLj := Lib.hid (HP1.out j)
      have HE := Lib.hid (itN_succ' (noteS 1 1 1 0) j (ex0, fbg 6 0 0))
      generalize (itN (noteS 1 1 1 0) j (ex0, fbg 6 0 0)).1 = M at *
      generalize (itN (noteS 1 1 1 0) j (ex0, fbg 6 0 0)).2 = F at *
      obtain ⟨M', F', HP⟩ : ∃ M' F', Hid (noteS 1 1 1 0 M F = (M', F')) := ⟨_, _, Lib.hid rfl⟩
      obtain ⟨_, b0, b1, b2, b3⟩ := BX.out.kb KB.out HBX.out
      obtain ⟨d0, d1, d2, d3, d4, d5, d6⟩ := BF.out.cells
      have lBF := BF.out.lt
      have lBX := (BX.out.kb KB.out HBX.out).1
      go_wp2_with fail
      refine (note_n LA.out HLj.out (by omega) HUj.out HP.out).mono ?_
      rintro _ w7 ⟨A', c', rfl, hn7, z⟩
      have BF3 := BF.out.after z
      clear b0 b1 b2 b3 d0 d1 d2 d3 d4 d5 d6 lBF lBX
      obtain ⟨d0, d1, d2, d3, d4, d5, d6⟩ := BF3.cells
      have fz := BF3.free
      have lBF := BF3.lt
      have HN := Lib.hid (hn7.pf BF.out.lt F')
      have HB3 := Lib.hid (BF3.pf F')
      have HK3 := Lib.hid ((KB.out.call HBB.out z).pf F')
      clear hn7 BF3 z
      go_wp2_with fail
      go_roundw
      case rel => exact ⟨j + 1, A', c', by go_num, rfl, by omega, by rw [HE.out, HP.out]; exact Lib.hid HN.out.rd, by rw [HE.out, HP.out]; exact HB3, HK3⟩
      case measure => simp [intOf]; omega
    · obtain rfl : j = 2 := by omega
      replace BX := Lib.hid (BX.out.kb KB.out HBX.out)
      replace Z := Lib.hid (Z.out.trans (KB.out.low.mono hzf.out))
      clear KB HBB hj hlt HW
      rw [ent1] at LA BF
      simp only at LA BF
      have BM := BF
      have LN := LA
      clear BF LA HBX hzf HU1 HP1
      go_wp2_with fail
      refine (Tells.of (pack_any 5 1 _ U1).tells (v' := .int .u64 327681) (by rw [enpk])).mono ?_
      rintro _ w3 ⟨rfl, z⟩
      replace Z := Lib.hid (Z.out.trans (z.mono Z.out.size))
      replace BX := Lib.hid (BX.out.below z)
      replace BM := Lib.hid (BM.out.after z)
      replace LN := Lib.hid (LN.out.below z)
      clear z
      go_wp2_with fail
      refine (store_new Am 12 cm en1 2 327681 _ LN.out rfl (by omega)).mono ?_
      rintro _ w4 ⟨k, rfl, hk0, hk, z⟩
      replace Z := Lib.hid (Z.out.trans (z.mono Z.out.size))
      replace BX := Lib.hid (BX.out.below z)
      replace BM := Lib.hid (BM.out.after z)
      replace LN := Lib.hid (LN.out.below z)
      have LB := Lib.hid (show Rd w4 (some ⟨k, 0, none⟩) en2 by rw [← ent2]; exact hk.rd)
      clear hk hk0 z
      go_wp2_with fail
      refine (begin_any 7 0 0 _).mono ?_
      rintro _ w5 ⟨rfl, z⟩
      replace Z := Lib.hid (Z.out.trans (z.mono Z.out.size))
      replace BX := Lib.hid (BX.out.below z)
      replace BM := Lib.hid (BM.out.after z)
      replace LN := Lib.hid (LN.out.below z)
      replace LB := Lib.hid (LB.out.below z)
      clear z
      have HBX := Lib.hid (Nat.ne_of_lt BX.out.1)
      have hzf := Lib.hid Z.out.size
      have HBM := Lib.hid (Nat.ne_of_lt BM.out.lt)
      have LNX := Lib.hid (LN.out.rx (Nat.le_refl _))
      clear LN
      obtain ⟨ws2, hws⟩ : ∃ ws2, ws2 = w5.alloc (.cells #[.int .i64 (fbg 7 0 0).op, .int .i64 (fbg 7 0 0).pc, .int .i64 (fbg 7 0 0).who, .int .u64 (fbg 7 0 0).val, .int .u64 (fbg 7 0 0).x, .int .u64 (fbg 7 0 0).y, .int .i64 (fbg 7 0 0).res] 29) := ⟨_, rfl⟩
      have hz := box_below w5 (.cells #[.int .i64 (fbg 7 0 0).op, .int .i64 (fbg 7 0 0).pc, .int .i64 (fbg 7 0 0).who, .int .u64 (fbg 7 0 0).val, .int .u64 (fbg 7 0 0).x, .int .u64 (fbg 7 0 0).y, .int .i64 (fbg 7 0 0).res] 29)
      rw [← hws] at hz
      have BF := Lib.hid (show Bf ws2 w5.heap.size (fbg 7 0 0) by rw [hws]; exact Bf.new w5 (fbg 7 0 0))
      replace BX := Lib.hid (BX.out.below hz)
      replace BM := Lib.hid (BM.out.after hz)
      replace LB := Lib.hid (LB.out.below hz)
      replace LNX := Lib.hid (LNX.out.after hz)
      replace Z := Lib.hid (Z.out.trans (hz.mono Z.out.size))
      have HW := Lib.hid hws
      clear hz hws
      have HBB := Lib.hid BF.out.lt
      go_wp2
      go_loopw [7, 5] (fun i s wr => ∃ (j : Nat) (A : Option Addr) (c : Nat), i = .int .i64 j ∧ s = .slice A 12 c ∧ j ≤ 2 ∧ Hid (Rd wr A (itN (noteS 1 1 1 0) j (en2, fbg 7 0 0)).1) ∧ Hid (Bf wr w5.heap.size (itN (noteS 1 1 1 0) j (en2, fbg 7 0 0)).2) ∧ Hid (Kb w5.heap.size ws2 wr)) (fun i _ _ => 2 - (intOf i).toNat)
      case atStart =>
        obtain rfl := HW.out
        exact ⟨0, (some ⟨k, 0, none⟩), 12, rfl, rfl, by omega, LB, BF, Lib.hid (Kb.refl _ _)⟩
      case round =>
        clear BF LB
        obtain ⟨j, An, cn, rfl, rfl, hj, LA, BF, KB⟩ := hrel
        by_cases hlt : j < 2
        · have HUj := Lib.hid (HU2.out j).2
          have HLj := Lib.hid (HP2.out j)
          have HE := Lib.hid (itN_succ' (noteS 1 1 1 0) j (en2, fbg 7 0 0))
          generalize (itN (noteS 1 1 1 0) j (en2, fbg 7 0 0)).1 = M at *
          generalize (itN (noteS 1 1 1 0) j (en2, fbg 7 0 0)).2 = F at *
          obtain ⟨M', F', HP⟩ : ∃ M' F', Hid (noteS 1 1 1 0 M F = (M', F')) := ⟨_, _, Lib.hid rfl⟩
          obtain ⟨_, b0, b1, b2, b3⟩ := BX.out.kb KB.out HBX.out
          obtain ⟨d0, d1, d2, d3, d4, d5, d6⟩ := BF.out.cells
          have lBF := BF.out.lt
          have lBX := (BX.out.kb KB.out HBX.out).1
          go_wp2_with fail
          refine (note_n LA.out HLj.out (by omega) HUj.out HP.out).mono ?_
          rintro _ w7 ⟨A', c', rfl, hn7, z⟩
          have BF3 := BF.out.after z
          clear b0 b1 b2 b3 d0 d1 d2 d3 d4 d5 d6 lBF lBX
          obtain ⟨d0, d1, d2, d3, d4, d5, d6⟩ := BF3.cells
          have fz := BF3.free
          have lBF := BF3.lt
          have HN := Lib.hid (hn7.pf BF.out.lt F')
          have HB3 := Lib.hid (BF3.pf F')
          have HK3 := Lib.hid ((KB.out.call HBB.out z).pf F')
          clear hn7 BF3 z
          go_wp2_with fail
          go_roundw
          case rel => exact ⟨j + 1, A', c', by go_num, rfl, by omega, by rw [HE.out, HP.out]; exact Lib.hid HN.out.rd, by rw [HE.out, HP.out]; exact HB3, HK3⟩
          case measure => simp [intOf]; omega
        · obtain rfl : j = 2 := by omega
          replace BX := Lib.hid (BX.out.kb KB.out HBX.out)
          replace BM := Lib.hid (BM.out.kb KB.out HBM.out)
          replace LNX := Lib.hid (LNX.out.kb KB.out)
          replace Z := Lib.hid (Z.out.trans (KB.out.low.mono hzf.out))
          clear KB HBB hj hlt HW
          rw [ent3] at LA BF
          simp only at LA BF
          obtain ⟨a0, a1, a2, a3, a4, a5, a6⟩ := BF.out.cells
          have la := BF.out.lt
          go_wp2_with fail
          refine (Tells.of (owes_any ⟨7, 2, 0, 0, 327681, 1, 0⟩ 0 _ en_F2) (v' := .bool true) (by rw [eno])).mono ?_
          rintro _ w7 ⟨rfl, z⟩
          clear a0 a1 a2 a3 a4 a5 a6 la
          replace Z := Lib.hid (Z.out.trans (z.mono Z.out.size))
          replace BX := Lib.hid (BX.out.below z)
          replace BM := Lib.hid (BM.out.after z)
          replace LNX := Lib.hid (LNX.out.after z)
          replace BF := Lib.hid (BF.out.after z)
          replace LA := Lib.hid (LA.out.below z)
          clear z
          have HLT := Lib.hid BF.out.lt
          have HZG := Lib.hid hzf.out
          obtain ⟨gx, x_0, x_1, x_2, x_3⟩ := BX.out
          obtain ⟨a0, a1, a2, a3, a4, a5, a6⟩ := BF.out.cells
          have la := BF.out.lt
          go_wp2_with fail
          refine (note_n LA.out (n := 12) rfl (by omega) en_F2 ent4).mono ?_
          rintro _ w8 ⟨A8, c8, rfl, hn8, z⟩
          clear gx x_0 x_1 x_2 x_3 a0 a1 a2 a3 a4 a5 a6 la
          replace Z := Lib.hid (Z.out.trans (z.mono Z.out.size))
          replace BX := Lib.hid (BX.out.below z)
          replace BM := Lib.hid (BM.out.after z)
          replace LNX := Lib.hid (LNX.out.after z)
          replace BF := Lib.hid (BF.out.after z)
          have LC := Lib.hid (hn8.rx (lo := 0) (g := w5.heap.size) (Nat.zero_le _) (.inl HLT.out))
          clear hn8 z
          obtain ⟨d0, d1, d2, d3, d4, d5, d6⟩ := BF.out.cells
          have ld := BF.out.lt
          have fz := BF.out.free
          go_upto_region 16 with fail
          change Code.wp _ _ _ _ (pf w8 w5.heap.size ⟨7, 0, 0, 1, 0, 0, 1⟩)
          have KB := Lib.hid ((Kb.refl w5.heap.size w8).pf ⟨7, 0, 0, 1, 0, 0, 1⟩)
          replace BF := Lib.hid (BF.out.pf ⟨7, 0, 0, 1, 0, 0, 1⟩)
          replace Z := Lib.hid (Z.out.trans (KB.out.low.mono HZG.out))
          replace BX := Lib.hid (BX.out.kb KB.out HBX.out)
          replace BM := Lib.hid (BM.out.kb KB.out HBM.out)
          replace LNX := Lib.hid (LNX.out.kb KB.out)
          replace LC := Lib.hid (LC.out.kb KB.out)
          clear d0 d1 d2 d3 d4 d5 d6 ld
          generalize pf w8 w5.heap.size ⟨7, 0, 0, 1, 0, 0, 1⟩ = w9 at BX BM LNX BF LC Z ⊢
          clear KB fz
          have HK := Lib.hid (show ∀ x', Below w9.heap.size w9 x' → (fun w' => w'.cell? ⟨w.heap.size, 0, none⟩ = some (.int .i64 1) ∧ w'.cell? ⟨w.heap.size, 1, none⟩ = some (.int .i64 1) ∧ w'.cell? ⟨w.heap.size, 2, none⟩ = some (.int .i64 1) ∧ w'.cell? ⟨w.heap.size, 3, none⟩ = some (.int .i64 0) ∧ w'.cell? ⟨w2.heap.size, 6, none⟩ = some (.int .i64 3) ∧ w'.cell? ⟨w5.heap.size, 6, none⟩ = some (.int .i64 1) ∧ Below w9.heap.size w9 w') x' from fun x' hx => by
            obtain ⟨_, e0, e1, e2, e3⟩ := BX.out.below hx
            exact ⟨e0, e1, e2, e3, (BM.out.after hx).cells.2.2.2.2.2.2, (BF.out.after hx).cells.2.2.2.2.2.2, hx⟩)
          have hHeld0 := HK.out _ (Below.refl _ _)
          have ZC := Lib.hid (Below.refl w9.heap.size w9).drew
          refine wp_region_held_drew (S := fun w' => w'.cell? ⟨w.heap.size, 0, none⟩ = some (.int .i64 1) ∧ w'.cell? ⟨w.heap.size, 1, none⟩ = some (.int .i64 1) ∧ w'.cell? ⟨w.heap.size, 2, none⟩ = some (.int .i64 1) ∧ w'.cell? ⟨w.heap.size, 3, none⟩ = some (.int .i64 0) ∧ w'.cell? ⟨w2.heap.size, 6, none⟩ = some (.int .i64 3) ∧ w'.cell? ⟨w5.heap.size, 6, none⟩ = some (.int .i64 1) ∧ Below w9.heap.size w9 w') (by kernel_rfl) (hd_drew HK.out (fun _ h => h.2.2.2.2.2.2) hHeld0) (fun hHeld => ?_)
          refine wpAnyH_take (i := 0) (oi := { dst := some 48, op := Go.Op.fieldAddr 29 (Go.Operand.tmp 3) 6, type := 0, pos := "law.go:31", after := #[], guard := none }) (v := ?vza1) rfl (by kernel_rfl) (by kernel_rfl) (by kernel_rfl) (fun _ _ _ h => h) (Or.inl ⟨by rfl, ?yza1⟩) (by assumption) ?rza1
          case yza1 => (intro w hSw; (try dsimp only at hSw); go_simp; (try with_reducible rfl))
          (try simp only [Act.put, List.setIfInBounds_toArray, List.set_cons_zero, List.set_cons_succ])
          refine wpAnyH_take (i := 1) (oi := { dst := some 49, op := Go.Op.load 3 (Go.Operand.tmp 48), type := 3, pos := "law.go:31", after := #[{ on := 0, ground := Go.Ground.data }], guard := none }) (v := ?vza2) rfl (by kernel_rfl) (by kernel_rfl) (by kernel_rfl) (fun _ _ _ h => h) (Or.inl ⟨by rfl, ?yza2⟩) (by assumption) ?rza2
          case yza2 => (intro w hSw; (try dsimp only at hSw); go_simp; (try with_reducible rfl))
          (try simp only [Act.put, List.setIfInBounds_toArray, List.set_cons_zero, List.set_cons_succ])
          refine wpAnyH_take (i := 2) (oi := { dst := some 50, op := Go.Op.binOp Go.BinOp.eql 3 (Go.Operand.tmp 49) (Go.Operand.const (Go.Value.int Go.IntKind.i64 3)) 3, type := 4, pos := "law.go:31", after := #[{ on := 1, ground := Go.Ground.data }], guard := none }) (v := ?vza3) rfl (by kernel_rfl) (by kernel_rfl) (by kernel_rfl) (fun _ _ _ h => h) (Or.inl ⟨by rfl, ?yza3⟩) (by assumption) ?rza3
          case yza3 => (intro w hSw; (try dsimp only at hSw); go_simp; (try with_reducible rfl))
          (try simp only [Act.put, List.setIfInBounds_toArray, List.set_cons_zero, List.set_cons_succ])
          refine wpAnyH_take (i := 3) (oi := { dst := some 51, op := Go.Op.move (Go.Operand.tmp 50), type := 4, pos := "law.go:31", after := #[{ on := 2, ground := Go.Ground.data }], guard := none }) (v := ?vza4) rfl (by kernel_rfl) (by kernel_rfl) (by kernel_rfl) (fun _ _ _ h => h) (Or.inl ⟨by rfl, ?yza4⟩) (by assumption) ?rza4
          case yza4 => (intro w hSw; (try dsimp only at hSw); go_simp; (try with_reducible rfl))
          (try simp only [Act.put, List.setIfInBounds_toArray, List.set_cons_zero, List.set_cons_succ])
          refine wpAnyH_take (i := 4) (oi := { dst := some 52, op := Go.Op.move (Go.Operand.tmp 2), type := 25, pos := "law.go:31", after := #[{ on := 3, ground := Go.Ground.guard }], guard := some (3, true) }) (v := ?vza5) rfl (by kernel_rfl) (by kernel_rfl) (by kernel_rfl) (fun _ _ _ h => h) (Or.inl ⟨by rfl, ?yza5⟩) (by assumption) ?rza5
          case yza5 => (intro w hSw; (try dsimp only at hSw); go_simp; (try with_reducible rfl))
          (try simp only [Act.put, List.setIfInBounds_toArray, List.set_cons_zero, List.set_cons_succ])
          refine wpAnyH_ready (rs := [5]) (by kernel_rfl) (by simp) ?_
          refine (AllReadyH.cons (o := { dst := some 53, op := Go.Op.call { callee := Go.Callee.value (Go.Operand.func 14), args := #[Go.Operand.tmp 52, Go.Operand.const (Go.Value.int Go.IntKind.i64 2)], argTypes := #[25, 3] }, type := 27, pos := "law.go:31", after := #[{ on := 4, ground := Go.Ground.data }, { on := 3, ground := Go.Ground.chain }, { on := 3, ground := Go.Ground.guard }], guard := some (3, true) }) rfl (fun K hK => ?_) AllReadyH.nil)
          go_simp
          refine (ret_of (load_any Am 12 cm en1 2 _ (LNX.out.rd.below ZC.out) rfl (by omega)) (v' := .int .u64 65536) (by rw [enl1])).mono ?_
          rintro e wz ⟨rfl, zb⟩
          go_wp2_with fail
          replace ZC := Lib.hid (keep_call (w2 := w9) zb ZC.out)
          clear zb
          refine hK.out _ _ (HK.out _ ZC.out) (fun hHeld2 => ?_)
          clear hK K hHeld
          have hHeld := hHeld2
          clear hHeld2
          (try simp only [Act.put, List.setIfInBounds_toArray, List.set_cons_zero, List.set_cons_succ])
          refine wpAnyH_ready (rs := [6]) (by kernel_rfl) (by simp) ?_
          refine (AllReadyH.cons (o := { dst := some 54, op := Go.Op.call { callee := Go.Callee.value (Go.Operand.func 17), args := #[Go.Operand.tmp 53], argTypes := #[27] }, type := 27, pos := "law.go:31", after := #[{ on := 5, ground := Go.Ground.data }, { on := 5, ground := Go.Ground.chain }, { on := 3, ground := Go.Ground.guard }], guard := some (3, true) }) rfl (fun K hK => ?_) AllReadyH.nil)
          go_simp
          refine (Tells.of (epoch_any 65536 _).tells (v' := .int .u64 1) (by rfl)).mono ?_
          rintro e wz ⟨rfl, zb⟩
          go_wp2_with fail
          replace ZC := Lib.hid (keep_call (w2 := w9) zb ZC.out)
          clear zb
          refine hK.out _ _ (HK.out _ ZC.out) (fun hHeld2 => ?_)
          clear hK K hHeld
          have hHeld := hHeld2
          clear hHeld2
          (try simp only [Act.put, List.setIfInBounds_toArray, List.set_cons_zero, List.set_cons_succ])
          refine wpAnyH_take (i := 7) (oi := { dst := some 55, op := Go.Op.binOp Go.BinOp.eql 27 (Go.Operand.tmp 54) (Go.Operand.const (Go.Value.int Go.IntKind.u64 1)) 27, type := 4, pos := "law.go:31", after := #[{ on := 6, ground := Go.Ground.data }, { on := 3, ground := Go.Ground.guard }], guard := some (3, true) }) (v := ?vza6) rfl (by kernel_rfl) (by kernel_rfl) (by kernel_rfl) (fun _ _ _ h => h) (Or.inl ⟨by rfl, ?yza6⟩) (by assumption) ?rza6
          case yza6 => (intro w hSw; (try dsimp only at hSw); go_simp; (try with_reducible rfl))
          (try simp only [Act.put, List.setIfInBounds_toArray, List.set_cons_zero, List.set_cons_succ])
          refine wpAnyH_take (i := 8) (oi := { dst := some 56, op := Go.Op.pick (Go.Operand.tmp 51) (Go.Operand.tmp 55) (Go.Operand.const (Go.Value.bool false)), type := 4, pos := "law.go:31", after := #[{ on := 3, ground := Go.Ground.data }, { on := 7, ground := Go.Ground.data }], guard := none }) (v := ?vza7) rfl (by kernel_rfl) (by kernel_rfl) (by kernel_rfl) (fun _ _ _ h => h) (Or.inl ⟨by rfl, ?yza7⟩) (by assumption) ?rza7
          case yza7 => (intro w hSw; (try dsimp only at hSw); go_simp; (try with_reducible rfl))
          (try simp only [Act.put, List.setIfInBounds_toArray, List.set_cons_zero, List.set_cons_succ])
          refine wpAnyH_take (i := 9) (oi := { dst := some 57, op := Go.Op.move (Go.Operand.tmp 56), type := 4, pos := "law.go:31", after := #[{ on := 8, ground := Go.Ground.data }, { on := 6, ground := Go.Ground.chain }], guard := none }) (v := ?vza8) rfl (by kernel_rfl) (by kernel_rfl) (by kernel_rfl) (fun _ _ _ h => h) (Or.inl ⟨by rfl, ?yza8⟩) (by assumption) ?rza8
          case yza8 => (intro w hSw; (try dsimp only at hSw); go_simp; (try with_reducible rfl))
          (try simp only [Act.put, List.setIfInBounds_toArray, List.set_cons_zero, List.set_cons_succ])
          refine wpAnyH_take (i := 10) (oi := { dst := some 58, op := Go.Op.move (Go.Operand.tmp 8), type := 4, pos := "law.go:31", after := #[{ on := 9, ground := Go.Ground.guard }], guard := some (9, true) }) (v := ?vza9) rfl (by kernel_rfl) (by kernel_rfl) (by kernel_rfl) (fun _ _ _ h => h) (Or.inl ⟨by rfl, ?yza9⟩) (by assumption) ?rza9
          case yza9 => (intro w hSw; (try dsimp only at hSw); go_simp; (try with_reducible rfl))
          (try simp only [Act.put, List.setIfInBounds_toArray, List.set_cons_zero, List.set_cons_succ])
          refine wpAnyH_take (i := 11) (oi := { dst := some 59, op := Go.Op.pick (Go.Operand.tmp 57) (Go.Operand.tmp 58) (Go.Operand.const (Go.Value.bool false)), type := 4, pos := "law.go:31", after := #[{ on := 9, ground := Go.Ground.data }, { on := 10, ground := Go.Ground.data }], guard := none }) (v := ?vza10) rfl (by kernel_rfl) (by kernel_rfl) (by kernel_rfl) (fun _ _ _ h => h) (Or.inl ⟨by rfl, ?yza10⟩) (by assumption) ?rza10
          case yza10 => (intro w hSw; (try dsimp only at hSw); go_simp; (try with_reducible rfl))
          (try simp only [Act.put, List.setIfInBounds_toArray, List.set_cons_zero, List.set_cons_succ])
          refine wpAnyH_take (i := 12) (oi := { dst := some 60, op := Go.Op.move (Go.Operand.tmp 59), type := 4, pos := "law.go:31", after := #[{ on := 11, ground := Go.Ground.data }, { on := 9, ground := Go.Ground.chain }], guard := none }) (v := ?vza11) rfl (by kernel_rfl) (by kernel_rfl) (by kernel_rfl) (fun _ _ _ h => h) (Or.inl ⟨by rfl, ?yza11⟩) (by assumption) ?rza11
          case yza11 => (intro w hSw; (try dsimp only at hSw); go_simp; (try with_reducible rfl))
          (try simp only [Act.put, List.setIfInBounds_toArray, List.set_cons_zero, List.set_cons_succ])
          refine wpAnyH_take (i := 13) (oi := { dst := some 61, op := Go.Op.fieldAddr 29 (Go.Operand.tmp 6) 6, type := 0, pos := "law.go:31", after := #[{ on := 12, ground := Go.Ground.guard }], guard := some (12, true) }) (v := ?vza12) rfl (by kernel_rfl) (by kernel_rfl) (by kernel_rfl) (fun _ _ _ h => h) (Or.inl ⟨by rfl, ?yza12⟩) (by assumption) ?rza12
          case yza12 => (intro w hSw; (try dsimp only at hSw); go_simp; (try with_reducible rfl))
          (try simp only [Act.put, List.setIfInBounds_toArray, List.set_cons_zero, List.set_cons_succ])
          refine wpAnyH_take (i := 14) (oi := { dst := some 62, op := Go.Op.load 3 (Go.Operand.tmp 61), type := 3, pos := "law.go:31", after := #[{ on := 13, ground := Go.Ground.data }, { on := 12, ground := Go.Ground.guard }], guard := some (12, true) }) (v := ?vza13) rfl (by kernel_rfl) (by kernel_rfl) (by kernel_rfl) (fun _ _ _ h => h) (Or.inl ⟨by rfl, ?yza13⟩) (by assumption) ?rza13
          case yza13 => (intro w hSw; (try dsimp only at hSw); go_simp; (try with_reducible rfl))
          (try simp only [Act.put, List.setIfInBounds_toArray, List.set_cons_zero, List.set_cons_succ])
          refine wpAnyH_take (i := 15) (oi := { dst := some 63, op := Go.Op.binOp Go.BinOp.eql 3 (Go.Operand.tmp 62) (Go.Operand.const (Go.Value.int Go.IntKind.i64 1)) 3, type := 4, pos := "law.go:31", after := #[{ on := 14, ground := Go.Ground.data }, { on := 12, ground := Go.Ground.guard }], guard := some (12, true) }) (v := ?vza14) rfl (by kernel_rfl) (by kernel_rfl) (by kernel_rfl) (fun _ _ _ h => h) (Or.inl ⟨by rfl, ?yza14⟩) (by assumption) ?rza14
          case yza14 => (intro w hSw; (try dsimp only at hSw); go_simp; (try with_reducible rfl))
          (try simp only [Act.put, List.setIfInBounds_toArray, List.set_cons_zero, List.set_cons_succ])
          refine wpAnyH_take (i := 16) (oi := { dst := some 64, op := Go.Op.pick (Go.Operand.tmp 60) (Go.Operand.tmp 63) (Go.Operand.const (Go.Value.bool false)), type := 4, pos := "law.go:31", after := #[{ on := 12, ground := Go.Ground.data }, { on := 15, ground := Go.Ground.data }], guard := none }) (v := ?vza15) rfl (by kernel_rfl) (by kernel_rfl) (by kernel_rfl) (fun _ _ _ h => h) (Or.inl ⟨by rfl, ?yza15⟩) (by assumption) ?rza15
          case yza15 => (intro w hSw; (try dsimp only at hSw); go_simp; (try with_reducible rfl))
          (try simp only [Act.put, List.setIfInBounds_toArray, List.set_cons_zero, List.set_cons_succ])
          refine wpAnyH_take (i := 17) (oi := { dst := some 65, op := Go.Op.move (Go.Operand.tmp 64), type := 4, pos := "law.go:31", after := #[{ on := 16, ground := Go.Ground.data }, { on := 12, ground := Go.Ground.chain }], guard := none }) (v := ?vza16) rfl (by kernel_rfl) (by kernel_rfl) (by kernel_rfl) (fun _ _ _ h => h) (Or.inl ⟨by rfl, ?yza16⟩) (by assumption) ?rza16
          case yza16 => (intro w hSw; (try dsimp only at hSw); go_simp; (try with_reducible rfl))
          (try simp only [Act.put, List.setIfInBounds_toArray, List.set_cons_zero, List.set_cons_succ])
          refine wpAnyH_take (i := 18) (oi := { dst := some 66, op := Go.Op.move (Go.Operand.tmp 5), type := 25, pos := "law.go:31", after := #[{ on := 17, ground := Go.Ground.guard }], guard := some (17, true) }) (v := ?vza17) rfl (by kernel_rfl) (by kernel_rfl) (by kernel_rfl) (fun _ _ _ h => h) (Or.inl ⟨by rfl, ?yza17⟩) (by assumption) ?rza17
          case yza17 => (intro w hSw; (try dsimp only at hSw); go_simp; (try with_reducible rfl))
          (try simp only [Act.put, List.setIfInBounds_toArray, List.set_cons_zero, List.set_cons_succ])
          refine wpAnyH_take (i := 19) (oi := { dst := some 67, op := Go.Op.load 23 (Go.Operand.tmp 1), type := 23, pos := "law.go:31", after := #[{ on := 17, ground := Go.Ground.guard }], guard := some (17, true) }) (v := ?vza18) rfl (by kernel_rfl) (by kernel_rfl) (by kernel_rfl) (fun _ _ _ h => h) (Or.inl ⟨by rfl, ?yza18⟩) (by assumption) ?rza18
          case yza18 => (intro w hSw; (try dsimp only at hSw); go_simp; (try with_reducible rfl))
          (try simp only [Act.put, List.setIfInBounds_toArray, List.set_cons_zero, List.set_cons_succ])
          refine wpAnyH_ready (rs := [20]) (by kernel_rfl) (by simp) ?_
          refine (AllReadyH.cons (o := { dst := some 68, op := Go.Op.call { callee := Go.Callee.value (Go.Operand.func 12), args := #[Go.Operand.tmp 67, Go.Operand.const (Go.Value.int Go.IntKind.i64 0)], argTypes := #[23, 3] }, type := 3, pos := "law.go:31", after := #[{ on := 19, ground := Go.Ground.data }, { on := 17, ground := Go.Ground.chain }, { on := 17, ground := Go.Ground.guard }], guard := some (17, true) }) rfl (fun K hK => ?_) AllReadyH.nil)
          go_simp
          refine (Tells.of (park_any 1 1 1 0 0 _) (v' := .int .i64 10) (by rw [enw])).mono ?_
          rintro e wz ⟨rfl, zb⟩
          go_wp2_with fail
          replace ZC := Lib.hid (keep_call (w2 := w9) zb ZC.out)
          clear zb
          refine hK.out _ _ (HK.out _ ZC.out) (fun hHeld2 => ?_)
          clear hK K hHeld
          have hHeld := hHeld2
          clear hHeld2
          (try simp only [Act.put, List.setIfInBounds_toArray, List.set_cons_zero, List.set_cons_succ])
          refine wpAnyH_ready (rs := [21]) (by kernel_rfl) (by simp) ?_
          refine (AllReadyH.cons (o := { dst := some 69, op := Go.Op.call { callee := Go.Callee.value (Go.Operand.func 14), args := #[Go.Operand.tmp 66, Go.Operand.tmp 68], argTypes := #[25, 3] }, type := 27, pos := "law.go:31", after := #[{ on := 18, ground := Go.Ground.data }, { on := 20, ground := Go.Ground.data }, { on := 20, ground := Go.Ground.chain }, { on := 17, ground := Go.Ground.guard }], guard := some (17, true) }) rfl (fun K hK => ?_) AllReadyH.nil)
          go_simp
          refine (ret_of (load_any A8 12 c8 en4 10 _ (LC.out.rd.below ZC.out) rfl (by omega)) (v' := .int .u64 1) (by rw [enl4])).mono ?_
          rintro e wz ⟨rfl, zb⟩
          go_wp2_with fail
          replace ZC := Lib.hid (keep_call (w2 := w9) zb ZC.out)
          clear zb
          refine hK.out _ _ (HK.out _ ZC.out) (fun hHeld2 => ?_)
          clear hK K hHeld
          have hHeld := hHeld2
          clear hHeld2
          (try simp only [Act.put, List.setIfInBounds_toArray, List.set_cons_zero, List.set_cons_succ])
          refine wpAnyH_take (i := 22) (oi := { dst := some 70, op := Go.Op.binOp Go.BinOp.eql 27 (Go.Operand.tmp 69) (Go.Operand.const (Go.Value.int Go.IntKind.u64 1)) 27, type := 4, pos := "law.go:31", after := #[{ on := 21, ground := Go.Ground.data }, { on := 17, ground := Go.Ground.guard }], guard := some (17, true) }) (v := ?vza19) rfl (by kernel_rfl) (by kernel_rfl) (by kernel_rfl) (fun _ _ _ h => h) (Or.inl ⟨by rfl, ?yza19⟩) (by assumption) ?rza19
          case yza19 => (intro w hSw; (try dsimp only at hSw); go_simp; (try with_reducible rfl))
          (try simp only [Act.put, List.setIfInBounds_toArray, List.set_cons_zero, List.set_cons_succ])
          refine wpAnyH_take (i := 23) (oi := { dst := some 71, op := Go.Op.pick (Go.Operand.tmp 65) (Go.Operand.tmp 70) (Go.Operand.const (Go.Value.bool false)), type := 4, pos := "law.go:31", after := #[{ on := 17, ground := Go.Ground.data }, { on := 22, ground := Go.Ground.data }], guard := none }) (v := ?vza20) rfl (by kernel_rfl) (by kernel_rfl) (by kernel_rfl) (fun _ _ _ h => h) (Or.inl ⟨by rfl, ?yza20⟩) (by assumption) ?rza20
          case yza20 => (intro w hSw; (try dsimp only at hSw); go_simp; (try with_reducible rfl))
          (try simp only [Act.put, List.setIfInBounds_toArray, List.set_cons_zero, List.set_cons_succ])
          refine wpAnyH_take (i := 24) (oi := { dst := some 72, op := Go.Op.move (Go.Operand.tmp 71), type := 4, pos := "law.go:31", after := #[{ on := 23, ground := Go.Ground.data }, { on := 21, ground := Go.Ground.chain }], guard := none }) (v := ?vza21) rfl (by kernel_rfl) (by kernel_rfl) (by kernel_rfl) (fun _ _ _ h => h) (Or.inl ⟨by rfl, ?yza21⟩) (by assumption) ?rza21
          case yza21 => (intro w hSw; (try dsimp only at hSw); go_simp; (try with_reducible rfl))
          (try simp only [Act.put, List.setIfInBounds_toArray, List.set_cons_zero, List.set_cons_succ])
          refine wpAnyH_take (i := 25) (oi := { dst := some 73, op := Go.Op.load 23 (Go.Operand.tmp 1), type := 23, pos := "law.go:31", after := #[{ on := 24, ground := Go.Ground.guard }], guard := some (24, true) }) (v := ?vza22) rfl (by kernel_rfl) (by kernel_rfl) (by kernel_rfl) (fun _ _ _ h => h) (Or.inl ⟨by rfl, ?yza22⟩) (by assumption) ?rza22
          case yza22 => (intro w hSw; (try dsimp only at hSw); go_simp; (try with_reducible rfl))
          (try simp only [Act.put, List.setIfInBounds_toArray, List.set_cons_zero, List.set_cons_succ])
          refine wpAnyH_take (i := 26) (oi := { dst := some 74, op := Go.Op.move (Go.Operand.tmp 5), type := 25, pos := "law.go:31", after := #[{ on := 24, ground := Go.Ground.guard }], guard := some (24, true) }) (v := ?vza23) rfl (by kernel_rfl) (by kernel_rfl) (by kernel_rfl) (fun _ _ _ h => h) (Or.inl ⟨by rfl, ?yza23⟩) (by assumption) ?rza23
          case yza23 => (intro w hSw; (try dsimp only at hSw); go_simp; (try with_reducible rfl))
          (try simp only [Act.put, List.setIfInBounds_toArray, List.set_cons_zero, List.set_cons_succ])
          refine wpAnyH_ready (rs := [27]) (by kernel_rfl) (by simp) ?_
          refine (AllReadyH.cons (o := { dst := some 75, op := Go.Op.call { callee := Go.Callee.value (Go.Operand.func 9), args := #[Go.Operand.const (Go.Value.int Go.IntKind.i64 6), Go.Operand.const (Go.Value.int Go.IntKind.i64 0), Go.Operand.const (Go.Value.int Go.IntKind.u64 0)], argTypes := #[3, 3, 27] }, type := 29, pos := "law.go:31", after := #[{ on := 24, ground := Go.Ground.chain }, { on := 24, ground := Go.Ground.guard }], guard := some (24, true) }) rfl (fun K hK => ?_) AllReadyH.nil)
          go_simp
          refine (begin_any 6 0 0 _).mono ?_
          rintro e wz ⟨rfl, zb⟩
          go_wp2_with fail
          replace ZC := Lib.hid (keep_call (w2 := w9) zb ZC.out)
          clear zb
          refine hK.out _ _ (HK.out _ ZC.out) (fun hHeld2 => ?_)
          clear hK K hHeld
          have hHeld := hHeld2
          clear hHeld2
          (try simp only [Act.put, List.setIfInBounds_toArray, List.set_cons_zero, List.set_cons_succ])
          refine wpAnyH_ready (rs := [28]) (by kernel_rfl) (by simp) ?_
          refine (AllReadyH.cons (o := { dst := some 76, op := Go.Op.call { callee := Go.Callee.value (Go.Operand.func 10), args := #[Go.Operand.tmp 73, Go.Operand.tmp 74, Go.Operand.tmp 75], argTypes := #[23, 25, 29] }, type := 4, pos := "law.go:31", after := #[{ on := 25, ground := Go.Ground.data }, { on := 26, ground := Go.Ground.data }, { on := 27, ground := Go.Ground.data }, { on := 27, ground := Go.Ground.chain }, { on := 24, ground := Go.Ground.guard }], guard := some (24, true) }) rfl (fun K hK => ?_) AllReadyH.nil)
          go_simp
          refine (Tells.of (ngoes_any 1 1 1 0 A8 12 c8 en4 (fbg 6 0 0) _ rfl) (v' := .bool true) (by rw [eng])).mono ?_
          rintro e wz ⟨rfl, zb⟩
          go_wp2_with fail
          replace ZC := Lib.hid (keep_call (w2 := w9) zb ZC.out)
          clear zb
          refine hK.out _ _ (HK.out _ ZC.out) (fun hHeld2 => ?_)
          clear hK K hHeld
          have hHeld := hHeld2
          clear hHeld2
          (try simp only [Act.put, List.setIfInBounds_toArray, List.set_cons_zero, List.set_cons_succ])
          refine wpAnyH_take (i := 29) (oi := { dst := some 77, op := Go.Op.pick (Go.Operand.tmp 72) (Go.Operand.tmp 76) (Go.Operand.const (Go.Value.bool false)), type := 4, pos := "law.go:31", after := #[{ on := 24, ground := Go.Ground.data }, { on := 28, ground := Go.Ground.data }], guard := none }) (v := ?vza24) rfl (by kernel_rfl) (by kernel_rfl) (by kernel_rfl) (fun _ _ _ h => h) (Or.inl ⟨by rfl, ?yza24⟩) (by assumption) ?rza24
          case yza24 => (intro w hSw; (try dsimp only at hSw); go_simp; (try with_reducible rfl))
          (try simp only [Act.put, List.setIfInBounds_toArray, List.set_cons_zero, List.set_cons_succ])
          refine wpAnyH_take (i := 30) (oi := { dst := some 0, op := Go.Op.assign (Go.Operand.tmp 77), type := 4, pos := "law.go:31", after := #[{ on := 29, ground := Go.Ground.data }, { on := 28, ground := Go.Ground.chain }, { on := 0, ground := Go.Ground.phase }, { on := 1, ground := Go.Ground.phase }, { on := 2, ground := Go.Ground.phase }, { on := 3, ground := Go.Ground.phase }, { on := 4, ground := Go.Ground.phase }, { on := 5, ground := Go.Ground.phase }, { on := 6, ground := Go.Ground.phase }, { on := 7, ground := Go.Ground.phase }, { on := 8, ground := Go.Ground.phase }, { on := 9, ground := Go.Ground.phase }, { on := 10, ground := Go.Ground.phase }, { on := 11, ground := Go.Ground.phase }, { on := 12, ground := Go.Ground.phase }, { on := 13, ground := Go.Ground.phase }, { on := 14, ground := Go.Ground.phase }, { on := 15, ground := Go.Ground.phase }, { on := 16, ground := Go.Ground.phase }, { on := 17, ground := Go.Ground.phase }, { on := 18, ground := Go.Ground.phase }, { on := 19, ground := Go.Ground.phase }, { on := 20, ground := Go.Ground.phase }, { on := 21, ground := Go.Ground.phase }, { on := 22, ground := Go.Ground.phase }, { on := 23, ground := Go.Ground.phase }, { on := 24, ground := Go.Ground.phase }, { on := 25, ground := Go.Ground.phase }, { on := 26, ground := Go.Ground.phase }, { on := 27, ground := Go.Ground.phase }, { on := 28, ground := Go.Ground.phase }, { on := 29, ground := Go.Ground.phase }], guard := none }) (v := ?vza25) rfl (by kernel_rfl) (by kernel_rfl) (by kernel_rfl) (fun _ _ _ h => h) (Or.inl ⟨by rfl, ?yza25⟩) (by assumption) ?rza25
          case yza25 => (intro w hSw; (try dsimp only at hSw); go_simp; (try with_reducible rfl))
          (try simp only [Act.put, List.setIfInBounds_toArray, List.set_cons_zero])
          refine wpAnyH_done (by kernel_rfl) ?_ _
          go_wp2
          go_ret
          exact ⟨rfl, Z.out.trans (ZC.out.mono Z.out.size)⟩
end Go.Proofs.Ytjddglandcpfpaa
