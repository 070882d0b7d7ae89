/- A call, alone, up to nine steps; and awake of poacherlaw12 (the chapter's example). -/
import Derived.Test.YtelelhjgejnpcaaTaD
import Derived.Test.YtelelhjgejnpcaaEnE
import Derived.Test.YtelelhjgejnpcaaLiB
namespace Go.Proofs.Ytelelhjgejnpcaa
open Go.RowKit Go.Deep
theorem enqS_op (W D J S : Int) (m : List Int) (f : Fr) : (enqS W D J S m f).2.op = f.op := by
  unfold enqS
  repeat' split
  all_goals rfl
theorem outS_op (W D J S : Int) (m : List Int) (f : Fr) : (outS W D J S m f).2.op = f.op := by
  unfold outS
  repeat' split
  all_goals rfl
theorem itN_op {g : List Int → Fr → List Int × Fr} (hg : ∀ m f, (g m f).2.op = f.op) (s : List Int × Fr) (k : Nat) : (itN g k s).2.op = s.2.op := by
  induction k with
  | zero => rfl
  | succ k ih => rw [itN_succ, hg]; exact ih
set_option maxHeartbeats 2000000 in
theorem one_enq {W D J S : Int} {A : Option Addr} {n c : Nat} {m : List Int} {f : Fr} {w : World} (h : Rd w A m) (hn : m.length = n) (hs : n ≤ 500) (hu : UM m) (hf : UF f) (ho : f.op = 3) {m' : List Int} {f' : Fr} (e : itN (enqS W D J S) 9 (m, f) = (m', f')) :
    Calls Try.prog 18 #[cf W D J S, .slice A n c, fv f] w fun e w' => ∃ A' c', e = .returned (.tuple #[.slice A' n c', fv f']) ∧ Rn w.heap.size w' A' m' ∧ Below w.heap.size w w' := by
  have HU := Lib.hid (fun k => enqN_U (W := W) (D := D) (J := J) (S := S) (s := (m, f)) hu hf k)
  have HPL := Lib.hid (fun k => (enqN_len W D J S k (m, f)).trans hn)
  have HOP := Lib.hid (fun k => (itN_op (enqS_op W D J S) (m, f) k).trans ho)
  have HEND := Lib.hid e
  have HS := Lib.hid hs
  clear hu hf ho e hn hs
  obtain ⟨BX, BF, B0, Z, hz⟩ := boxes3 w W D J S f
  have H := Lib.hid (h.below Z)
  clear h
  go_enter Try.func18, Try.ntmps18
  go_upto_region 1 with fail
  change Code.wp _ _ _ _ (bx3 w W D J S f)
  generalize bx3 w W D J S f = w0 at BX BF B0 Z hz H ⊢
  have HBX := Lib.hid BX
  have HBF := Lib.hid BF
  have HB0 := Lib.hid B0
  have HZ := Lib.hid Z
  have hl1 : w.heap.size < w0.heap.size := by omega
  have hl2 : w.heap.size + 1 < w0.heap.size := by omega
  have HNE := Lib.hid (show w.heap.size ≠ w.heap.size + 1 by omega)
  have HNE2 := Lib.hid (show w.heap.size + 1 + 1 ≠ w.heap.size + 1 by omega)
  clear BX BF B0 Z
  go_wp2
  go_loopw [8, 1] (fun i s wr => ∃ (j : Nat) (A : Option Addr) (c : Nat), i = .int .i64 j ∧ s = .slice A n c ∧ j ≤ 9 ∧ Hid (Rd wr A (itN (enqS W D J S) j (m, f)).1) ∧ Hid (0 < j → Rn w0.heap.size wr A (itN (enqS W D J S) j (m, f)).1) ∧ Hid (Bf wr (w.heap.size + 1) (itN (enqS W D J S) j (m, f)).2) ∧ Hid (Kb (w.heap.size + 1) w0 wr)) (fun i _ _ => 9 - (intOf i).toNat)
  case atStart =>
    exact ⟨0, A, c, rfl, rfl, by omega, H, Lib.hid (fun h => absurd h (by omega)), HBF, Lib.hid (Kb.refl _ _)⟩
  case round =>
    clear HBF
    obtain ⟨j, A, c, rfl, rfl, hj, LA, LN, BF, KB⟩ := hrel
    by_cases hlt : j < 9
    · have HUj := Lib.hid (HU.out j).2
      have HLj := Lib.hid (HPL.out j)
      have hop := HOP.out j
      have HE := Lib.hid (itN_succ (enqS W D J S) j (m, f))
      generalize (itN (enqS W D J S) j (m, f)).1 = M at *
      generalize (itN (enqS W D J S) j (m, f)).2 = F at *
      obtain ⟨o, p, q, u, x, y, s⟩ := F
      simp only at hop
      subst hop
      obtain ⟨M', F', HP⟩ : ∃ M' F', Hid (enqS W D J S M ⟨3, p, q, u, x, y, s⟩ = (M', F')) := ⟨_, _, Lib.hid rfl⟩
      obtain ⟨_, b0, b1, b2, b3⟩ := HBX.out.kb KB.out HNE.out
      obtain ⟨d0, d1, d2, d3, d4, d5, d6⟩ := BF.out.cells
      have lBF := BF.out.lt
      have lBX := (HBX.out.kb KB.out HNE.out).1
      have HKZ := Lib.hid (show w0.heap.size ≤ wr.heap.size from KB.out.low.size)
      simp only at d0 d1 d2 d3 d4 d5 d6
      go_wp2_with fail
      refine (enq_n LA.out HLj.out HS.out HUj.out HP.out).mono ?_
      rintro _ w7 ⟨A', c', rfl, hn7, z⟩
      have BF3 := BF.out.after z
      clear b0 b1 b2 b3 d0 d1 d2 d3 d4 d5 d6 lBF lBX
      obtain ⟨d0, d1, d2, d3, d4, d5, d6⟩ := BF3.cells
      have fz := BF3.free
      have lBF := BF3.lt
      have HN := Lib.hid ((hn7.mono HKZ.out).pf hl2 F')
      have HB3 := Lib.hid (BF3.pf F')
      have HK3 := Lib.hid ((KB.out.call hl2 z).pf F')
      clear hn7 BF3 z
      go_wp2_with fail
      go_roundw
      case rel => exact ⟨j + 1, A', c', by go_num, rfl, by omega, by rw [HE.out, HP.out]; exact Lib.hid HN.out.rd, by rw [HE.out, HP.out]; exact Lib.hid (fun _ => HN.out), by rw [HE.out, HP.out]; exact HB3, HK3⟩
      case measure => simp [intOf]; omega
    · obtain rfl : j = 9 := by omega
      rw [HEND.out] at LN BF
      simp only at LN BF
      have B03 := Lib.hid (HB0.out.kb KB.out HNE2.out)
      have ZZ := Lib.hid (HZ.out.trans (KB.out.low.mono (show w.heap.size ≤ w.heap.size + 1 by omega) |> fun h => h))
      have RN := Lib.hid (LN.out (by omega))
      obtain ⟨a0, a1, a2, a3, a4, a5, a6⟩ := BF.out.cells
      have la := BF.out.lt
      obtain ⟨d0, d1, d2, d3, d4, d5, d6⟩ := B03.out.cells
      have ld := B03.out.lt
      have fz := B03.out.free
      have hh : w.heap.size + 1 + 1 < w0.heap.size := by omega
      have hw : w.heap.size ≤ w0.heap.size := by omega
      have hl3 : w.heap.size ≤ w.heap.size + 1 + 1 := by omega
      clear hlt hj hz
      go_wp2_with fail
      go_region
      all_goals
        go_wp2
        change bodyPost _ _ _ _ _ (pf wr (w.heap.size + 1 + 1) f').drew
        refine bodyPost_ret (results_fr Try.results18 _ rfl ((B03.out.pf _).drew)) rfl ?_
        exact ⟨A, c, rfl, ((RN.out.pf hh _).drew).mono hw, (below_pf ZZ.out hl3 _).drew⟩
set_option maxHeartbeats 2000000 in
theorem one_out {W D J S : Int} {A : Option Addr} {n c : Nat} {m : List Int} {f : Fr} {w : World} (h : Rd w A m) (hn : m.length = n) (hs : n ≤ 500) (hu : UM m) (hf : UF f) (ho : f.op = 4) {m' : List Int} {f' : Fr} (e : itN (outS W D J S) 9 (m, f) = (m', f')) :
    Calls Try.prog 18 #[cf W D J S, .slice A n c, fv f] w fun e w' => ∃ A' c', e = .returned (.tuple #[.slice A' n c', fv f']) ∧ Rn w.heap.size w' A' m' ∧ Below w.heap.size w w' := by
  have HU := Lib.hid (fun k => outN_U (W := W) (D := D) (J := J) (S := S) (s := (m, f)) hu hf k)
  have HPL := Lib.hid (fun k => (outN_len W D J S k (m, f)).trans hn)
  have HOP := Lib.hid (fun k => (itN_op (outS_op W D J S) (m, f) k).trans ho)
  have HEND := Lib.hid e
  have HS := Lib.hid hs
  clear hu hf ho e hn hs
  obtain ⟨BX, BF, B0, Z, hz⟩ := boxes3 w W D J S f
  have H := Lib.hid (h.below Z)
  clear h
  go_enter Try.func18, Try.ntmps18
  go_upto_region 1 with fail
  change Code.wp _ _ _ _ (bx3 w W D J S f)
  generalize bx3 w W D J S f = w0 at BX BF B0 Z hz H ⊢
  have HBX := Lib.hid BX
  have HBF := Lib.hid BF
  have HB0 := Lib.hid B0
  have HZ := Lib.hid Z
  have hl1 : w.heap.size < w0.heap.size := by omega
  have hl2 : w.heap.size + 1 < w0.heap.size := by omega
  have HNE := Lib.hid (show w.heap.size ≠ w.heap.size + 1 by omega)
  have HNE2 := Lib.hid (show w.heap.size + 1 + 1 ≠ w.heap.size + 1 by omega)
  clear BX BF B0 Z
  go_wp2
  go_loopw [8, 1] (fun i s wr => ∃ (j : Nat) (A : Option Addr) (c : Nat), i = .int .i64 j ∧ s = .slice A n c ∧ j ≤ 9 ∧ Hid (Rd wr A (itN (outS W D J S) j (m, f)).1) ∧ Hid (0 < j → Rn w0.heap.size wr A (itN (outS W D J S) j (m, f)).1) ∧ Hid (Bf wr (w.heap.size + 1) (itN (outS W D J S) j (m, f)).2) ∧ Hid (Kb (w.heap.size + 1) w0 wr)) (fun i _ _ => 9 - (intOf i).toNat)
  case atStart =>
    exact ⟨0, A, c, rfl, rfl, by omega, H, Lib.hid (fun h => absurd h (by omega)), HBF, Lib.hid (Kb.refl _ _)⟩
  case round =>
    clear HBF
    obtain ⟨j, A, c, rfl, rfl, hj, LA, LN, BF, KB⟩ := hrel
    by_cases hlt : j < 9
    · have HUj := Lib.hid (HU.out j).2
      have HLj := Lib.hid (HPL.out j)
      have hop := HOP.out j
      have HE := Lib.hid (itN_succ (outS W D J S) j (m, f))
      generalize (itN (outS W D J S) j (m, f)).1 = M at *
      generalize (itN (outS W D J S) j (m, f)).2 = F at *
      obtain ⟨o, p, q, u, x, y, s⟩ := F
      simp only at hop
      subst hop
      obtain ⟨M', F', HP⟩ : ∃ M' F', Hid (outS W D J S M ⟨4, p, q, u, x, y, s⟩ = (M', F')) := ⟨_, _, Lib.hid rfl⟩
      obtain ⟨_, b0, b1, b2, b3⟩ := HBX.out.kb KB.out HNE.out
      obtain ⟨d0, d1, d2, d3, d4, d5, d6⟩ := BF.out.cells
      have lBF := BF.out.lt
      have lBX := (HBX.out.kb KB.out HNE.out).1
      have HKZ := Lib.hid (show w0.heap.size ≤ wr.heap.size from KB.out.low.size)
      simp only at d0 d1 d2 d3 d4 d5 d6
      go_wp2_with fail
      refine (out_n LA.out HLj.out HS.out HUj.out HP.out).mono ?_
      rintro _ w7 ⟨A', c', rfl, hn7, z⟩
      have BF3 := BF.out.after z
      clear b0 b1 b2 b3 d0 d1 d2 d3 d4 d5 d6 lBF lBX
      obtain ⟨d0, d1, d2, d3, d4, d5, d6⟩ := BF3.cells
      have fz := BF3.free
      have lBF := BF3.lt
      have HN := Lib.hid ((hn7.mono HKZ.out).pf hl2 F')
      have HB3 := Lib.hid (BF3.pf F')
      have HK3 := Lib.hid ((KB.out.call hl2 z).pf F')
      clear hn7 BF3 z
      go_wp2_with fail
      go_roundw
      case rel => exact ⟨j + 1, A', c', by go_num, rfl, by omega, by rw [HE.out, HP.out]; exact Lib.hid HN.out.rd, by rw [HE.out, HP.out]; exact Lib.hid (fun _ => HN.out), by rw [HE.out, HP.out]; exact HB3, HK3⟩
      case measure => simp [intOf]; omega
    · obtain rfl : j = 9 := by omega
      rw [HEND.out] at LN BF
      simp only at LN BF
      have B03 := Lib.hid (HB0.out.kb KB.out HNE2.out)
      have ZZ := Lib.hid (HZ.out.trans (KB.out.low.mono (show w.heap.size ≤ w.heap.size + 1 by omega) |> fun h => h))
      have RN := Lib.hid (LN.out (by omega))
      obtain ⟨a0, a1, a2, a3, a4, a5, a6⟩ := BF.out.cells
      have la := BF.out.lt
      obtain ⟨d0, d1, d2, d3, d4, d5, d6⟩ := B03.out.cells
      have ld := B03.out.lt
      have fz := B03.out.free
      have hh : w.heap.size + 1 + 1 < w0.heap.size := by omega
      have hw : w.heap.size ≤ w0.heap.size := by omega
      have hl3 : w.heap.size ≤ w.heap.size + 1 + 1 := by omega
      clear hlt hj hz
      go_wp2_with fail
      go_region
      all_goals
        go_wp2
        change bodyPost _ _ _ _ _ (pf wr (w.heap.size + 1 + 1) f').drew
        refine bodyPost_ret (results_fr Try.results18 _ rfl ((B03.out.pf _).drew)) rfl ?_
        exact ⟨A, c, rfl, ((RN.out.pf hh _).drew).mono hw, (below_pf ZZ.out hl3 _).drew⟩
theorem aw2 : itN (outS 1 1 2 0) 2 ((List.replicate 14 0), fbg 4 0 0) = ((List.replicate 14 0), ⟨4, 0, 0, 0, 0, 0, 3⟩) :=
  Prod.ext (by decide +kernel) (fr_ext (by decide +kernel) (by decide +kernel) (by decide +kernel) (by decide +kernel) (by decide +kernel) (by decide +kernel) (by decide +kernel))
theorem awl : ilst 1 1 2 0 (List.replicate 14 0) = some [] := by decide +kernel
theorem aw_U (k : Nat) : UF (itN (outS 1 1 2 0) k ((List.replicate 14 0), fbg 4 0 0)).2 := (outN_U (s := ((List.replicate 14 0), fbg 4 0 0)) (fun u hu => by rw [List.eq_of_mem_replicate hu]; exact U0) ⟨U0, U0, U0⟩ k).2
theorem aw_len (k : Nat) : (itN (outS 1 1 2 0) k ((List.replicate 14 0), fbg 4 0 0)).1.length = 14 := (outN_len _ _ _ _ _ _).trans (by rfl)
theorem awake_any (w : World) : Tells 9 #[] w (.bool true) := by
  go_enter Try.func9, Try.ntmps9
  go_wp2_with fail
  refine (new_at 1 1 2 0 14 _ (by rfl) (by omega)).mono ?_
  rintro _ w1 ⟨A1, c1, rfl, hr, z⟩
  have BX := Lib.hid ((Bx.mk w 1 1 2 0 23).below z)
  have Z := Lib.hid ((box_below w _).trans (z.mono (by simp)))
  have LM := Lib.hid hr
  clear z hr
  obtain ⟨gx, b0, b1, b2, b3⟩ := BX.out
  go_wp2_with fail
  refine (dlist_L (n := 14) LM.out (by rfl) (by omega) (fun u hu => by rw [List.eq_of_mem_replicate hu]; exact U0) awl (L := []) rfl (k := 0) rfl (B := true) rfl).mono ?_
  rintro _ w2 ⟨A2, c2, rfl, _, _, z⟩
  clear gx b0 b1 b2 b3
  replace BX := Lib.hid (BX.out.below z)
  replace Z := Lib.hid (Z.out.trans (z.mono Z.out.size))
  replace LM := Lib.hid (LM.out.below z)
  clear z
  go_wp2_with fail
  refine (begin_any 4 0 0 _).mono ?_
  rintro _ w3 ⟨rfl, z⟩
  replace BX := Lib.hid (BX.out.below z)
  replace Z := Lib.hid (Z.out.trans (z.mono Z.out.size))
  replace LM := Lib.hid (LM.out.below z)
  clear z
  obtain ⟨ws, hws⟩ : ∃ ws, ws = w3.alloc (.cells #[.int .i64 4, .int .i64 0, .int .i64 0, .int .u64 0, .int .u64 0, .int .u64 0, .int .i64 0] 28) := ⟨_, rfl⟩
  have BF := Lib.hid (show Bf ws w3.heap.size (fbg 4 0 0) by rw [hws]; exact Bf.new w3 (fbg 4 0 0))
  have hz := box_below w3 (.cells #[.int .i64 4, .int .i64 0, .int .i64 0, .int .u64 0, .int .u64 0, .int .u64 0, .int .i64 0] 28)
  rw [← hws] at hz
  have BX2 := Lib.hid (BX.out.below hz)
  have LM2 := Lib.hid (LM.out.below hz)
  have HG := Lib.hid BX.out.1
  have HW := Lib.hid hws
  clear hz hws
  have HBB := Lib.hid BF.out.lt
  clear BX LM
  go_wp2
  go_loopw [6, 2] (fun i s wr => ∃ (j : Nat) (A : Option Addr) (c : Nat), i = .int .i64 j ∧ s = .slice A 14 c ∧ j ≤ 2 ∧ Hid (Rd wr A (itN (outS 1 1 2 0) j ((List.replicate 14 0), fbg 4 0 0)).1) ∧ Hid (Bf wr w3.heap.size (itN (outS 1 1 2 0) j ((List.replicate 14 0), fbg 4 0 0)).2) ∧ Hid (Kb w3.heap.size ws wr)) (fun i _ _ => 2 - (intOf i).toNat)
  case atStart =>
    obtain rfl := HW.out
    exact ⟨0, A1, c1, rfl, rfl, by omega, LM2, BF, Lib.hid (Kb.refl _ _)⟩
  case round =>
    clear BF
    obtain ⟨j, A, c, rfl, rfl, hj, LA, BF, KB⟩ := hrel
    by_cases hlt : j < 2
    · have HU := Lib.hid (aw_U j)
      have HL := Lib.hid (aw_len j)
      have HE := Lib.hid (itN_succ (outS 1 1 2 0) j ((List.replicate 14 0), fbg 4 0 0))
      generalize (itN (outS 1 1 2 0) j ((List.replicate 14 0), fbg 4 0 0)).1 = M at *
      generalize (itN (outS 1 1 2 0) j ((List.replicate 14 0), fbg 4 0 0)).2 = F at *
      obtain ⟨M', F', HP⟩ : ∃ M' F', Hid (outS 1 1 2 0 M F = (M', F')) := ⟨_, _, Lib.hid rfl⟩
      obtain ⟨_, b0, b1, b2, b3⟩ := BX2.out.kb KB.out (Nat.ne_of_lt HG.out)
      obtain ⟨d0, d1, d2, d3, d4, d5, d6⟩ := BF.out.cells
      go_wp2_with fail
      refine (out_n LA.out HL.out (by omega) HU.out HP.out).mono ?_
      rintro _ w4 ⟨A', c', rfl, hn, z⟩
      have BF3 := BF.out.after z
      clear b0 b1 b2 b3 d0 d1 d2 d3 d4 d5 d6
      obtain ⟨d0, d1, d2, d3, d4, d5, d6⟩ := BF3.cells
      have fz := BF3.free
      have HN := Lib.hid (hn.pf BF.out.lt F')
      have HB3 := Lib.hid (BF3.pf F')
      have HK3 := Lib.hid ((KB.out.call HBB.out z).pf F')
      clear hn BF3
      go_wp2_with fail
      go_roundw
      case rel => exact ⟨j + 1, A', c', by go_num, rfl, by omega, by rw [HE.out, HP.out]; exact Lib.hid HN.out.rd, by rw [HE.out, HP.out]; exact HB3, HK3⟩
      case measure => simp [intOf]; omega
    · obtain rfl : j = 2 := by omega
      rw [aw2] at LA BF
      simp only at LA BF
      have Z3 := Lib.hid (Z.out.trans (KB.out.low.mono Z.out.size |> fun h => by rw [HW.out] at h; exact (box_below w3 _).mono (Z.out.size) |>.trans h))
      obtain ⟨d0, d1, d2, d3, d4, d5, d6⟩ := BF.out.cells
      simp only at d0 d1 d2 d3 d4 d5 d6
      clear KB HBB HW BX2 LM2 Z HG
      go_wp2
      go_ret
      exact ⟨rfl, Z3.out⟩
end Go.Proofs.Ytelelhjgejnpcaa
