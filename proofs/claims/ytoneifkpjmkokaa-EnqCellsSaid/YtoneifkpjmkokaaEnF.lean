/- awake of poacherlaw11: the chapter's example. -/
import Derived.Test.YtoneifkpjmkokaaEnE
namespace Go.Proofs.Ytoneifkpjmkokaa
open Go.RowKit Go.Deep
def ey1 : List Int := [0, 0, 0, 0, 0, 1, 1, 7, 0, 0, 0, 0]
theorem ee5 : itN (enqS 1 1 1 0) 5 (ex0, fbg 3 0 7) = (ey1, ⟨3, 0, 0, 7, 0, 0, 1⟩) :=
  Prod.ext (by decide +kernel) (fr_ext (by decide +kernel) (by decide +kernel) (by decide +kernel) (by decide +kernel) (by decide +kernel) (by decide +kernel) (by decide +kernel))
theorem ee6 : enqS 1 1 1 0 ey1 (fbg 3 0 8) = (ey1, ⟨3, 1, 0, 8, 1, 0, 0⟩) :=
  Prod.ext (by decide +kernel) (fr_ext (by decide +kernel) (by decide +kernel) (by decide +kernel) (by decide +kernel) (by decide +kernel) (by decide +kernel) (by decide +kernel))
theorem ee7 : enqS 1 1 1 0 ey1 ⟨3, 1, 0, 8, 1, 0, 0⟩ = (ey1, ⟨3, 0, 0, 8, 0, 0, 2⟩) :=
  Prod.ext (by decide +kernel) (fr_ext (by decide +kernel) (by decide +kernel) (by decide +kernel) (by decide +kernel) (by decide +kernel) (by decide +kernel) (by decide +kernel))
theorem eel : ilen 1 1 1 0 ey1 = 1 := by decide +kernel
theorem eeg : goesE 1 1 1 0 ey1 (fbg 3 0 8) 3 = true := by decide +kernel
theorem ee_len (k : Nat) : (itN (enqS 1 1 1 0) k (ex0, fbg 3 0 7)).1.length = 12 := enqN_len _ _ _ _ _ _
theorem U7 : U 7 := by unfold U; omega
theorem U8 : U 8 := by unfold U; omega
theorem U1 : U 1 := by unfold U; omega
theorem ee_U (k : Nat) : UF (itN (enqS 1 1 1 0) k (ex0, fbg 3 0 7)).2 := (enqN_U (s := (ex0, fbg 3 0 7)) (fun u hu => by rw [List.eq_of_mem_replicate hu]; exact U0) ⟨U7, U0, U0⟩ k).2
theorem awake_any (w : World) : Tells 9 #[] w (.bool true) := by
  go_enter Try.func9, Try.ntmps9
  go_wp2_with fail
  refine (new_at 1 1 1 0 12 _ (by rfl) (by omega)).mono ?_
  rintro _ w1 ⟨A1, c1, rfl, hr, z⟩
  have BX := Lib.hid ((Bx.mk w 1 1 1 0 23).below z)
  have Z := Lib.hid ((box_below w _).trans (z.mono (by simp)))
  have LM := Lib.hid hr
  clear z hr
  go_wp2_with fail
  refine (begin_any 3 0 7 _).mono ?_
  rintro _ w2 ⟨rfl, z⟩
  replace BX := Lib.hid (BX.out.below z)
  replace Z := Lib.hid (Z.out.trans (z.mono Z.out.size))
  replace LM := Lib.hid (LM.out.below z)
  clear z
  obtain ⟨ws, hws⟩ : ∃ ws, ws = w2.alloc (.cells #[.int .i64 3, .int .i64 0, .int .i64 0, .int .u64 7, .int .u64 0, .int .u64 0, .int .i64 0] 28) := ⟨_, rfl⟩
  have BF := Lib.hid (show Bf ws w2.heap.size (fbg 3 0 7) by rw [hws]; exact Bf.new w2 (fbg 3 0 7))
  have hz := box_below w2 (.cells #[.int .i64 3, .int .i64 0, .int .i64 0, .int .u64 7, .int .u64 0, .int .u64 0, .int .i64 0] 28)
  rw [← hws] at hz
  have BX2 := Lib.hid (BX.out.below hz)
  have LM2 := Lib.hid (LM.out.below hz)
  have HG := Lib.hid BX.out.1
  have HW := Lib.hid hws
  clear hz hws
  have HBB := Lib.hid BF.out.lt
  clear BX LM
  go_wp2
  go_loopw [4, 2] (fun i s wr => ∃ (j : Nat) (A : Option Addr) (c : Nat), i = .int .i64 j ∧ s = .slice A 12 c ∧ j ≤ 5 ∧ Hid (Rd wr A (itN (enqS 1 1 1 0) j (ex0, fbg 3 0 7)).1) ∧ Hid (Bf wr w2.heap.size (itN (enqS 1 1 1 0) j (ex0, fbg 3 0 7)).2) ∧ Hid (Kb w2.heap.size ws wr)) (fun i _ _ => 5 - (intOf i).toNat)
  case atStart =>
    obtain rfl := HW.out
    exact ⟨0, A1, c1, rfl, rfl, by omega, LM2, BF, Lib.hid (Kb.refl _ _)⟩
  case round =>
    clear BF
    obtain ⟨j, A, c, rfl, rfl, hj, LA, BF, KB⟩ := hrel
    by_cases hlt : j < 5
    · have HU := Lib.hid (ee_U j)
      have HL := Lib.hid (ee_len j)
      have HE := Lib.hid (itN_succ (enqS 1 1 1 0) j (ex0, fbg 3 0 7))
      generalize (itN (enqS 1 1 1 0) j (ex0, fbg 3 0 7)).1 = M at *
      generalize (itN (enqS 1 1 1 0) j (ex0, fbg 3 0 7)).2 = F at *
      obtain ⟨M', F', HP⟩ : ∃ M' F', Hid (enqS 1 1 1 0 M F = (M', F')) := ⟨_, _, Lib.hid rfl⟩
      obtain ⟨_, b0, b1, b2, b3⟩ := BX2.out.kb KB.out (Nat.ne_of_lt HG.out)
      obtain ⟨d0, d1, d2, d3, d4, d5, d6⟩ := BF.out.cells
      go_wp2_with fail
      refine (enq_n LA.out HL.out (by omega) HU.out HP.out).mono ?_
      rintro _ w3 ⟨A', c', rfl, hn, z⟩
      have BF3 := BF.out.after z
      clear b0 b1 b2 b3 d0 d1 d2 d3 d4 d5 d6
      obtain ⟨d0, d1, d2, d3, d4, d5, d6⟩ := BF3.cells
      have fz := BF3.free
      have HN := Lib.hid (hn.pf BF.out.lt F')
      have HB3 := Lib.hid (BF3.pf F')
      have HK3 := Lib.hid ((KB.out.call HBB.out z).pf F')
      clear hn BF3
      go_wp2_with fail
      go_roundw
      case rel => exact ⟨j + 1, A', c', by go_num, rfl, by omega, by rw [HE.out, HP.out]; exact Lib.hid HN.out.rd, by rw [HE.out, HP.out]; exact HB3, HK3⟩
      case measure => simp [intOf]; omega
    · obtain rfl : j = 5 := by omega
      rw [ee5] at LA BF
      simp only at LA BF
      have BX3 := Lib.hid (BX2.out.kb KB.out (Nat.ne_of_lt HG.out))
      have Z3 := Lib.hid (Z.out.trans (KB.out.low.mono Z.out.size |> fun h => by rw [HW.out] at h; exact (box_below w2 _).mono (Z.out.size) |>.trans h))
      clear KB HBB HW BX2 LM2 Z HG
      have BX := BX3
      have Z := Z3
      clear BX3 Z3
      have HZ3 := Lib.hid Z.out.size
      go_wp2_with fail
      refine (begin_any 3 0 8 _).mono ?_
      rintro _ w4 ⟨rfl, z⟩
      replace Z := Lib.hid (Z.out.trans (z.mono Z.out.size))
      replace BX := Lib.hid (BX.out.below z)
      replace BF := Lib.hid (BF.out.after z)
      replace LA := Lib.hid (LA.out.below z)
      clear z
      obtain ⟨gx, x_0, x_1, x_2, x_3⟩ := BX.out
      go_wp2_with fail
      refine (enq_n (LA.out.alloc _) (n := 12) (by rfl) (by omega) ⟨U8, U0, U0⟩ ee6).mono ?_
      rintro _ w5 ⟨A5, c5, rfl, hn5, z⟩
      clear gx x_0 x_1 x_2 x_3
      have BG := Lib.hid ((Bf.new w4 (fbg 3 0 8)).after z)
      replace z := keep_call z (bel_alloc w4 _)
      replace Z := Lib.hid (Z.out.trans (z.mono Z.out.size))
      replace BX := Lib.hid (BX.out.below z)
      replace BF := Lib.hid (BF.out.after z)
      replace LA := Lib.hid (LA.out.below z)
      have LB := Lib.hid hn5.rd
      clear hn5 z
      have HZ5 := Lib.hid Z.out.size
      have HGX := Lib.hid (Nat.ne_of_lt BX.out.1)
      have HGF := Lib.hid (Nat.ne_of_lt BF.out.lt)
      have HGG := Lib.hid (Nat.ne_of_lt BG.out.lt)
      have LAX := Lib.hid (LA.out.rx (Nat.le_refl _))
      have LBX := Lib.hid (LB.out.rx (Nat.le_refl _))
      clear LA LB
      obtain ⟨gx, x_0, x_1, x_2, x_3⟩ := BX.out
      go_wp2_with fail
      refine (enq_n (LBX.out.rd.alloc _) (n := 12) (by rfl) (by omega) ⟨U8, U1, U0⟩ ee7).mono ?_
      rintro _ w6 ⟨A6, c6, rfl, hn6, z⟩
      clear gx x_0 x_1 x_2 x_3
      have BH := Lib.hid ((Bf.new w5 ⟨3, 1, 0, 8, 1, 0, 0⟩).after z)
      replace z := keep_call z (bel_alloc w5 _)
      replace Z := Lib.hid (Z.out.trans (z.mono Z.out.size))
      replace BX := Lib.hid (BX.out.below z)
      replace BF := Lib.hid (BF.out.after z)
      replace BG := Lib.hid (BG.out.after z)
      replace LAX := Lib.hid (LAX.out.after z)
      replace LBX := Lib.hid (LBX.out.after z)
      have LC := Lib.hid (hn6.rx (lo := 0) (g := w5.heap.size) (Nat.zero_le _) (.inl (by simp)))
      clear hn6 z
      obtain ⟨d0, d1, d2, d3, d4, d5, d6⟩ := BH.out.cells
      have ld := BH.out.lt
      have fz := BH.out.free
      go_upto_region 11 with fail
      change Code.wp _ _ _ _ (pf w6 w5.heap.size ⟨3, 0, 0, 8, 0, 0, 2⟩)
      have KB := Lib.hid ((Kb.refl w5.heap.size w6).pf ⟨3, 0, 0, 8, 0, 0, 2⟩)
      replace BH := Lib.hid (BH.out.pf ⟨3, 0, 0, 8, 0, 0, 2⟩)
      replace Z := Lib.hid (Z.out.trans (KB.out.low.mono (show w.heap.size ≤ w5.heap.size from by have h := HZ5.out; exact h)))
      replace BX := Lib.hid (BX.out.kb KB.out HGX.out)
      replace BF := Lib.hid (BF.out.kb KB.out HGF.out)
      replace BG := Lib.hid (BG.out.kb KB.out HGG.out)
      replace LAX := Lib.hid (LAX.out.kb KB.out)
      replace LC := Lib.hid (LC.out.kb KB.out)
      clear d0 d1 d2 d3 d4 d5 d6 ld
      generalize pf w6 w5.heap.size ⟨3, 0, 0, 8, 0, 0, 2⟩ = w7 at BH BX BF BG LAX LC Z ⊢
      clear KB fz LBX
      obtain ⟨gx, x_0, x_1, x_2, x_3⟩ := BX.out
      obtain ⟨a0, a1, a2, a3, a4, a5, a6⟩ := BF.out.cells
      have la := BF.out.lt
      obtain ⟨b0, b1, b2, b3, b4, b5, b6⟩ := BG.out.cells
      have lb := BG.out.lt
      obtain ⟨d0, d1, d2, d3, d4, d5, d6⟩ := BH.out.cells
      have ld := BH.out.lt
      simp only [fbg] at b0 b1 b2 b3 b4 b5 b6
      simp only at a0 a1 a2 a3 a4 a5 a6 d0 d1 d2 d3 d4 d5 d6
      go_wp2_with fail
      refine (Tells.of (qlen_any 1 1 1 0 A 12 c ey1 _ LAX.out.rd (by rfl) (by omega)) (v' := .int .i64 1) (by rw [eel])).mono ?_
      rintro _ w8 ⟨rfl, z⟩
      clear gx x_0 x_1 x_2 x_3 a0 a1 a2 a3 a4 a5 a6 la b0 b1 b2 b3 b4 b5 b6 lb d0 d1 d2 d3 d4 d5 d6 ld
      replace Z := Lib.hid (Z.out.trans (z.mono Z.out.size))
      replace BX := Lib.hid (BX.out.below z)
      replace BF := Lib.hid (BF.out.after z)
      replace BG := Lib.hid (BG.out.after z)
      replace LAX := Lib.hid (LAX.out.after z)
      replace BH := Lib.hid (BH.out.after z)
      replace LC := Lib.hid (LC.out.after z)
      clear z
      obtain ⟨gx, x_0, x_1, x_2, x_3⟩ := BX.out
      obtain ⟨a0, a1, a2, a3, a4, a5, a6⟩ := BF.out.cells
      have la := BF.out.lt
      obtain ⟨b0, b1, b2, b3, b4, b5, b6⟩ := BG.out.cells
      have lb := BG.out.lt
      obtain ⟨d0, d1, d2, d3, d4, d5, d6⟩ := BH.out.cells
      have ld := BH.out.lt
      simp only [fbg] at b0 b1 b2 b3 b4 b5 b6
      simp only at a0 a1 a2 a3 a4 a5 a6 d0 d1 d2 d3 d4 d5 d6
      go_wp2_with fail
      refine (Tells.of (qlen_any 1 1 1 0 A6 12 c6 ey1 _ LC.out.rd (by rfl) (by omega)) (v' := .int .i64 1) (by rw [eel])).mono ?_
      rintro _ w9 ⟨rfl, z⟩
      clear gx x_0 x_1 x_2 x_3 a0 a1 a2 a3 a4 a5 a6 la b0 b1 b2 b3 b4 b5 b6 lb d0 d1 d2 d3 d4 d5 d6 ld
      replace Z := Lib.hid (Z.out.trans (z.mono Z.out.size))
      replace BX := Lib.hid (BX.out.below z)
      replace BF := Lib.hid (BF.out.after z)
      replace BG := Lib.hid (BG.out.after z)
      replace LAX := Lib.hid (LAX.out.after z)
      replace BH := Lib.hid (BH.out.after z)
      replace LC := Lib.hid (LC.out.after z)
      clear z
      obtain ⟨gx, x_0, x_1, x_2, x_3⟩ := BX.out
      obtain ⟨a0, a1, a2, a3, a4, a5, a6⟩ := BF.out.cells
      have la := BF.out.lt
      obtain ⟨b0, b1, b2, b3, b4, b5, b6⟩ := BG.out.cells
      have lb := BG.out.lt
      obtain ⟨d0, d1, d2, d3, d4, d5, d6⟩ := BH.out.cells
      have ld := BH.out.lt
      simp only [fbg] at b0 b1 b2 b3 b4 b5 b6
      simp only at a0 a1 a2 a3 a4 a5 a6 d0 d1 d2 d3 d4 d5 d6
      go_wp2_with fail
      refine (Tells.of (qgoes_any 1 1 1 0 3 A 12 c ey1 (fbg 3 0 8) _ (by rfl)) (v' := .bool true) (by rw [eeg])).mono ?_
      rintro _ w10 ⟨rfl, z⟩
      clear gx x_0 x_1 x_2 x_3 a0 a1 a2 a3 a4 a5 a6 la b0 b1 b2 b3 b4 b5 b6 lb d0 d1 d2 d3 d4 d5 d6 ld
      replace Z := Lib.hid (Z.out.trans (z.mono Z.out.size))
      replace BX := Lib.hid (BX.out.below z)
      replace BF := Lib.hid (BF.out.after z)
      replace BG := Lib.hid (BG.out.after z)
      replace LAX := Lib.hid (LAX.out.after z)
      replace BH := Lib.hid (BH.out.after z)
      replace LC := Lib.hid (LC.out.after z)
      clear z
      go_wp2
      go_ret
      exact ⟨rfl, Z.out⟩
end Go.Proofs.Ytoneifkpjmkokaa
