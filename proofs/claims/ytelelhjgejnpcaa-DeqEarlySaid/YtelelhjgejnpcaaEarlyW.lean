/- The walk of DeqEarly. -/
import Derived.Test.YtelelhjgejnpcaaCuL
namespace Go.Proofs.Ytelelhjgejnpcaa
open Go.RowKit Go.Deep
theorem early_no (W D J S v : Int) (w : World) (hm : may W D J S = false) : Tells 8 #[cf W D J S, .int .u64 v] w (.bool true) := by
  have HM := Lib.hid hm
  clear hm
  go_enter Try.func8, Try.ntmps8
  go_wp2_with fail
  refine (awake_any _).mono ?_
  rintro _ w1 ⟨rfl, z⟩
  have BX := Lib.hid ((Bx.mk w W D J S 23).below z)
  have Z := Lib.hid ((box_below w _).trans (z.mono (by simp)))
  clear z
  obtain ⟨gx, x_0, x_1, x_2, x_3⟩ := BX.out
  go_wp2_with fail
  refine (Tells.of (may_any W D J S _) (v' := .bool false) (by rw [HM.out])).mono ?_
  rintro _ w2 ⟨rfl, z⟩
  replace Z := Lib.hid (Z.out.trans (z.mono Z.out.size))
  clear z
  go_wp2
  go_ret
  exact ⟨rfl, Z.out⟩
set_option maxRecDepth 100000 in
set_option maxHeartbeats 2000000 in
theorem early_main (W D J S v : Int) (w : World) (hm : may W D J S = true) (hv : U v) : Tells 8 #[cf W D J S, .int .u64 v] w (.bool true) := by
  obtain ⟨hW, hD, hJ, hS⟩ := may_lim hm
  have hlim := sz_lim W D J S
  obtain ⟨n, hN⟩ := Int.eq_ofNat_of_zero_le hlim.1
  have hN2 : n ≤ 190 := by omega
  have hs : n ≤ 500 := by omega
  have hk : okm W D J S (List.replicate n 0) = true := by unfold okm; rw [hm]; simp [hN]
  obtain ⟨m4, f4, m5, m6, e1, e2, e3, e4, e5, e6⟩ := deq_early (w := 0) (v := v) (w' := 0) hk (Vi.new hm n)
  have hu0 : UM (List.replicate n 0) := fun u hu => by rw [List.eq_of_mem_replicate hu]; exact U0
  have hU := fun k => enqN_U (W := W) (D := D) (J := J) (S := S) (s := (List.replicate n 0, fbg 3 0 v)) hu0 ⟨hv, U0, U0⟩ k
  have hl4 : m4.length = n := by have h := enqN_len W D J S 4 (List.replicate n 0, fbg 3 0 v); rw [e1] at h; exact h.trans (by simp)
  have hu4 : UM m4 ∧ UF f4 := by have h := hU 4; rw [e1] at h; exact h
  have hl5 : m5.length = n := by have h := enqS_len W D J S m4 f4; rw [e5] at h; exact h.trans hl4
  have hu5 : UM m5 := by have h := (enqS_U (W := W) (D := D) (J := J) (S := S) hu4.1 hu4.2).1; rw [e5] at h; exact h
  have HM := Lib.hid hm
  have HNN := Lib.hid hN
  have HN2 := Lib.hid hN2
  have E1 := Lib.hid e1
  have E2 := Lib.hid e2
  have E3 := Lib.hid e3
  have E4 := Lib.hid e4
  have E5 := Lib.hid e5
  have E6 := Lib.hid e6
  have HU := Lib.hid hU
  have HL4 := Lib.hid hl4
  have HU4 := Lib.hid hu4
  have HL5 := Lib.hid hl5
  have HU5 := Lib.hid hu5
  have HPL := Lib.hid (fun k => (enqN_len W D J S k (List.replicate n 0, fbg 3 0 v)).trans (show (List.replicate n (0 : Int)).length = n by simp))
  clear hW hD hJ hS hlim hN hm hk e1 e2 e3 e4 e5 e6 hu0 hU hl4 hu4 hl5 hu5 hN2 hv
  go_enter Try.func8, Try.ntmps8
  go_wp2_with fail
  refine (awake_any _).mono ?_
  rintro _ w1 ⟨rfl, z⟩
  have BX := Lib.hid ((Bx.mk w W D J S 23).below z)
  have Z := Lib.hid ((box_below w _).trans (z.mono (by simp)))
  clear z
  obtain ⟨gx, x_0, x_1, x_2, x_3⟩ := BX.out
  go_wp2_with fail
  refine (Tells.of (may_any W D J S _) (v' := .bool true) (by rw [HM.out])).mono ?_
  rintro _ w2 ⟨rfl, z⟩
  clear gx x_0 x_1 x_2 x_3
  replace Z := Lib.hid (Z.out.trans (z.mono Z.out.size))
  replace BX := Lib.hid (BX.out.below z)
  clear z
  obtain ⟨gx, x_0, x_1, x_2, x_3⟩ := BX.out
  go_wp2_with fail
  refine (new_at W D J S n _ HNN.out HN2.out).mono ?_
  rintro _ w3 ⟨A3, c3, rfl, hr3, z⟩
  clear gx x_0 x_1 x_2 x_3
  replace Z := Lib.hid (Z.out.trans (z.mono Z.out.size))
  replace BX := Lib.hid (BX.out.below z)
  have LM := Lib.hid hr3
  clear hr3 z
  go_wp2_with fail
  refine (begin_any 3 0 v _).mono ?_
  rintro _ w4 ⟨rfl, z⟩
  replace Z := Lib.hid (Z.out.trans (z.mono Z.out.size))
  replace BX := Lib.hid (BX.out.below z)
  replace LM := Lib.hid (LM.out.below z)
  clear z
  have HBX := Lib.hid (Nat.ne_of_lt (show w.heap.size < w4.heap.size from BX.out.1))
  have hzf := Lib.hid Z.out.size
  have HG4 := Lib.hid (show w.heap.size < w4.heap.size from BX.out.1)
  obtain ⟨ws, hws⟩ : ∃ ws, ws = w4.alloc (.cells #[.int .i64 (fbg 3 0 v).op, .int .i64 (fbg 3 0 v).pc, .int .i64 (fbg 3 0 v).who, .int .u64 (fbg 3 0 v).val, .int .u64 (fbg 3 0 v).x, .int .u64 (fbg 3 0 v).y, .int .i64 (fbg 3 0 v).res] 28) := ⟨_, rfl⟩
  have hz := box_below w4 (.cells #[.int .i64 (fbg 3 0 v).op, .int .i64 (fbg 3 0 v).pc, .int .i64 (fbg 3 0 v).who, .int .u64 (fbg 3 0 v).val, .int .u64 (fbg 3 0 v).x, .int .u64 (fbg 3 0 v).y, .int .i64 (fbg 3 0 v).res] 28)
  rw [← hws] at hz
  have BF := Lib.hid (show Bf ws w4.heap.size (fbg 3 0 v) by rw [hws]; exact Bf.new w4 (fbg 3 0 v))
  replace BX := Lib.hid (BX.out.below hz)
  replace LM := Lib.hid (LM.out.below hz)
  replace Z := Lib.hid (Z.out.trans (hz.mono Z.out.size))
  have HW := Lib.hid hws
  clear hz hws
  obtain ⟨A, hA⟩ : ∃ A, A = A3 := ⟨_, rfl⟩
  obtain ⟨c, hc⟩ : ∃ c, c = c3 := ⟨_, rfl⟩
  rw [← hA] at LM ⊢
  rw [← hc]
  clear hA hc
  have HBB := Lib.hid BF.out.lt
  go_wp2
  go_loopw [8, 6] (fun i s wr => ∃ (j : Nat) (A : Option Addr) (c : Nat), i = .int .i64 j ∧ s = .slice A n c ∧ j ≤ 4 ∧ Hid (Rd wr A (itN (enqS W D J S) j (List.replicate n 0, fbg 3 0 v)).1) ∧ Hid (Bf wr w4.heap.size (itN (enqS W D J S) j (List.replicate n 0, fbg 3 0 v)).2) ∧ Hid (Kb w4.heap.size ws wr)) (fun i _ _ => 4 - (intOf i).toNat)
  case atStart =>
    obtain rfl := HW.out
    exact ⟨0, A, c, rfl, rfl, by omega, LM, BF, Lib.hid (Kb.refl _ _)⟩
  case round =>
    clear BF LM
    obtain ⟨j, A, c, rfl, rfl, hj, LA, BF, KB⟩ := hrel
    by_cases hlt : j < 4
    · have HUj := Lib.hid (HU.out j).2
      have HLj := Lib.hid (HPL.out j)
      have HE := Lib.hid (itN_succ (enqS W D J S) j (List.replicate n 0, fbg 3 0 v))
      generalize (itN (enqS W D J S) j (List.replicate n 0, fbg 3 0 v)).1 = M at *
      generalize (itN (enqS W D J S) j (List.replicate n 0, fbg 3 0 v)).2 = F at *
      obtain ⟨M', F', HP⟩ : ∃ M' F', Hid (enqS W D J S M F = (M', F')) := ⟨_, _, Lib.hid rfl⟩
      obtain ⟨_, b0, b1, b2, b3⟩ := BX.out.kb KB.out HBX.out
      obtain ⟨d0, d1, d2, d3, d4, d5, d6⟩ := BF.out.cells
      have lBF := BF.out.lt
      have lBX := (BX.out.kb KB.out HBX.out).1
      go_wp2_with fail
      refine (enq_n LA.out HLj.out hs HUj.out HP.out).mono ?_
      rintro _ w7 ⟨A', c', rfl, hn7, z⟩
      have BF3 := BF.out.after z
      clear b0 b1 b2 b3 d0 d1 d2 d3 d4 d5 d6 lBF lBX
      obtain ⟨d0, d1, d2, d3, d4, d5, d6⟩ := BF3.cells
      have fz := BF3.free
      have lBF := BF3.lt
      have HN := Lib.hid (hn7.pf BF.out.lt F')
      have HB3 := Lib.hid (BF3.pf F')
      have HK3 := Lib.hid ((KB.out.call HBB.out z).pf F')
      clear hn7 BF3 z
      go_wp2_with fail
      go_roundw
      case rel => exact ⟨j + 1, A', c', by go_num, rfl, by omega, by rw [HE.out, HP.out]; exact Lib.hid HN.out.rd, by rw [HE.out, HP.out]; exact HB3, HK3⟩
      case measure => simp [intOf]; omega
    · obtain rfl : j = 4 := by omega
      replace BX := Lib.hid (BX.out.kb KB.out HBX.out)
      replace Z := Lib.hid (Z.out.trans (KB.out.low.mono hzf.out))
      clear KB HBB hj hlt HW
      rw [E1.out] at LA BF
      simp only at LA BF
      have LM := LA
      clear LA
      have HS := Lib.hid hs
      clear hs
      obtain ⟨gx, x_0, x_1, x_2, x_3⟩ := BX.out
      obtain ⟨a0, a1, a2, a3, a4, a5, a6⟩ := BF.out.cells
      have la := BF.out.lt
      go_wp2_with fail
      clear gx x_0 x_1 x_2 x_3 a0 a1 a2 a3 a4 a5 a6 la
      go_cut [9, 10] from 37 to 43 (fun x t wz => Hid (Cu wr n m4 ⟨4, 0, 0, 0, 0, 0, 3⟩ x t wz))
      case first =>
        have HKc := Lib.hid (show ∀ x', Below wr.heap.size wr x' → (fun w' => w'.cell? ⟨w.heap.size, 0, none⟩ = some (.int .i64 W) ∧ w'.cell? ⟨w.heap.size, 1, none⟩ = some (.int .i64 D) ∧ w'.cell? ⟨w.heap.size, 2, none⟩ = some (.int .i64 J) ∧ w'.cell? ⟨w.heap.size, 3, none⟩ = some (.int .i64 S) ∧ Below wr.heap.size wr w') x' from fun x' hx => by
          obtain ⟨_, e0, e1, e2, e3⟩ := BX.out.below hx
          exact ⟨e0, e1, e2, e3, hx⟩)
        have hHeld0 := HKc.out _ (Below.refl _ _)
        have ZC := Lib.hid (Below.refl wr.heap.size wr).drew
        refine wp_region_held_drew (S := fun w' => w'.cell? ⟨w.heap.size, 0, none⟩ = some (.int .i64 W) ∧ w'.cell? ⟨w.heap.size, 1, none⟩ = some (.int .i64 D) ∧ w'.cell? ⟨w.heap.size, 2, none⟩ = some (.int .i64 J) ∧ w'.cell? ⟨w.heap.size, 3, none⟩ = some (.int .i64 S) ∧ Below wr.heap.size wr w') (by kernel_rfl) (hd_drew HKc.out (fun _ h => h.2.2.2.2) hHeld0) (fun hHeld => ?_)
        refine wpAnyH_take (i := 0) (oi := { dst := some 38, op := Go.Op.load 23 (Go.Operand.tmp 2), type := 23, pos := "more.go:66", after := #[], guard := none }) (v := ?vqb1) rfl (by kernel_rfl) (by kernel_rfl) (by kernel_rfl) (fun _ _ _ h => h) (Or.inl ⟨by rfl, ?yqb1⟩) (by assumption) ?rqb1
        case yqb1 => (intro w hSw; (try dsimp only at hSw); go_simp; (try with_reducible rfl))
        (try simp only [Act.put, List.setIfInBounds_toArray, List.set_cons_zero, List.set_cons_succ])
        refine wpAnyH_take (i := 1) (oi := { dst := some 39, op := Go.Op.move (Go.Operand.tmp 6), type := 25, pos := "more.go:66", after := #[], guard := none }) (v := ?vqb2) rfl (by kernel_rfl) (by kernel_rfl) (by kernel_rfl) (fun _ _ _ h => h) (Or.inl ⟨by rfl, ?yqb2⟩) (by assumption) ?rqb2
        case yqb2 => (intro w hSw; (try dsimp only at hSw); go_simp; (try with_reducible rfl))
        (try simp only [Act.put, List.setIfInBounds_toArray, List.set_cons_zero, List.set_cons_succ])
        refine wpAnyH_ready (rs := [2, 7]) (by kernel_rfl) (by simp) ?_
        refine (AllReadyH.cons (o := { dst := some 40, op := Go.Op.call { callee := Go.Callee.value (Go.Operand.func 16), args := #[Go.Operand.const (Go.Value.int Go.IntKind.i64 4), Go.Operand.const (Go.Value.int Go.IntKind.i64 0), Go.Operand.const (Go.Value.int Go.IntKind.u64 0)], argTypes := #[3, 3, 26] }, type := 28, pos := "more.go:66", after := #[], guard := none }) rfl (fun K hK => ?_) (AllReadyH.cons (o := { dst := some 10, op := Go.Op.alloc 28, type := 0, pos := "more.go:66", after := #[], guard := none }) rfl (fun K hK => ?_) AllReadyH.nil))
        · go_simp
          refine (begin_any 4 0 0 _).mono ?_
          rintro e wb ⟨rfl, zb⟩
          go_wp2_with fail
          replace ZC := Lib.hid (keep_call zb ZC.out)
          clear zb
          refine hK.out _ _ (HKc.out _ ZC.out) (fun hHeld2 => ?_)
          clear hK K hHeld
          have hHeld := hHeld2
          clear hHeld2
          (try simp only [Act.put, List.setIfInBounds_toArray, List.set_cons_zero, List.set_cons_succ])
          refine wpAnyH_ready (rs := [3, 7]) (by kernel_rfl) (by simp) ?_
          refine (AllReadyH.cons (o := { dst := some 41, op := Go.Op.call { callee := Go.Callee.value (Go.Operand.func 18), args := #[Go.Operand.tmp 38, Go.Operand.tmp 39, Go.Operand.tmp 40], argTypes := #[23, 25, 28] }, type := 30, pos := "more.go:66", after := #[{ on := 0, ground := Go.Ground.data }, { on := 1, ground := Go.Ground.data }, { on := 2, ground := Go.Ground.data }, { on := 2, ground := Go.Ground.chain }], guard := none }) rfl (fun K hK => ?_) (AllReadyH.cons (o := { dst := some 10, op := Go.Op.alloc 28, type := 0, pos := "more.go:66", after := #[], guard := none }) rfl (fun K hK => ?_) AllReadyH.nil))
          · go_simp
            refine (one_out (LM.out.below ZC.out) HL4.out HS.out HU4.out.1 ⟨U0, U0, U0⟩ rfl E3.out).mono ?_
            rintro e wo ⟨A9, c9, rfl, hn9, zo⟩
            go_wp2_with fail
            have HN9 := Lib.hid hn9
            replace ZC := Lib.hid (keep_call zo ZC.out)
            clear hn9 zo
            refine hK.out _ _ (HKc.out _ ZC.out) (fun hHeld2 => ?_)
            clear hK K hHeld
            have hHeld := hHeld2
            clear hHeld2
            (try simp only [Act.put, List.setIfInBounds_toArray, List.set_cons_zero, List.set_cons_succ])
            refine wpAnyH_take (i := 4) (oi := { dst := some 37, op := Go.Op.move (Go.Operand.tmp 41), type := 30, pos := "more.go:66", after := #[{ on := 3, ground := Go.Ground.data }], guard := none }) (v := ?vqb3) rfl (by kernel_rfl) (by kernel_rfl) (by kernel_rfl) (fun _ _ _ h => h) (Or.inl ⟨by rfl, ?yqb3⟩) (by assumption) ?rqb3
            case yqb3 => (intro w hSw; (try dsimp only at hSw); go_simp; (try with_reducible rfl))
            (try simp only [Act.put, List.setIfInBounds_toArray, List.set_cons_zero, List.set_cons_succ])
            refine wpAnyH_take (i := 5) (oi := { dst := some 42, op := Go.Op.extract (Go.Operand.tmp 37) 0, type := 25, pos := "more.go:66", after := #[{ on := 4, ground := Go.Ground.data }], guard := none }) (v := ?vqb4) rfl (by kernel_rfl) (by kernel_rfl) (by kernel_rfl) (fun _ _ _ h => h) (Or.inl ⟨by rfl, ?yqb4⟩) (by assumption) ?rqb4
            case yqb4 => (intro w hSw; (try dsimp only at hSw); go_simp; (try with_reducible rfl))
            (try simp only [Act.put, List.setIfInBounds_toArray, List.set_cons_zero, List.set_cons_succ])
            refine wpAnyH_take (i := 6) (oi := { dst := some 43, op := Go.Op.extract (Go.Operand.tmp 37) 1, type := 28, pos := "more.go:66", after := #[{ on := 4, ground := Go.Ground.data }, { on := 8, ground := Go.Ground.gcOnly Go.Departure.lateStores }], guard := none }) (v := ?vqb5) rfl (by kernel_rfl) (by kernel_rfl) (by kernel_rfl) (fun _ _ _ h => h) (Or.inl ⟨by rfl, ?yqb5⟩) (by assumption) ?rqb5
            case yqb5 => (intro w hSw; (try dsimp only at hSw); go_simp; (try with_reducible rfl))
            (try simp only [Act.put, List.setIfInBounds_toArray, List.set_cons_zero, List.set_cons_succ])
            refine wpAnyH_ready (rs := [7]) (by kernel_rfl) (by simp) ?_
            refine (AllReadyH.cons (o := { dst := some 10, op := Go.Op.alloc 28, type := 0, pos := "more.go:66", after := #[], guard := none }) rfl (fun K hK => ?_) AllReadyH.nil)
            go_simp
            have HGS := Lib.hid (show wr.heap.size ≤ wo.heap.size from ZC.out.size)
            have ZO := ZC
            have EO := Lib.hid (show Bf (wo.alloc (.cells #[.int .i64 0, .int .i64 0, .int .i64 0, .int .u64 0, .int .u64 0, .int .u64 0, .int .i64 0] 28)) wo.heap.size f0 from Bf.new wo f0)
            replace ZC := Lib.hid (ZO.out.alloc ZO.out.size (.cells #[.int .i64 0, .int .i64 0, .int .i64 0, .int .u64 0, .int .u64 0, .int .u64 0, .int .i64 0] 28))
            refine hK.out _ _ (HKc.out _ ZC.out) (fun hHeld2 => ?_)
            clear hK K hHeld
            have hHeld := hHeld2
            clear hHeld2
            (try simp only [Act.put, List.setIfInBounds_toArray, List.set_cons_zero, List.set_cons_succ])
            refine wpAnyH_take (i := 8) (oi := { dst := some 9, op := Go.Op.assign (Go.Operand.tmp 42), type := 25, pos := "more.go:66", after := #[{ on := 5, ground := Go.Ground.data }, { on := 3, ground := Go.Ground.chain }, { on := 0, ground := Go.Ground.phase }, { on := 1, ground := Go.Ground.phase }, { on := 2, ground := Go.Ground.phase }, { on := 3, ground := Go.Ground.phase }, { on := 4, ground := Go.Ground.phase }, { on := 5, ground := Go.Ground.phase }, { on := 6, ground := Go.Ground.textOnly Go.Departure.lateStores }, { on := 7, ground := Go.Ground.phase }], guard := none }) (v := ?vqb6) rfl (by kernel_rfl) (by kernel_rfl) (by kernel_rfl) (fun _ _ _ h => h) (Or.inl ⟨by rfl, ?yqb6⟩) (by assumption) ?rqb6
            case yqb6 => (intro w hSw; (try dsimp only at hSw); go_simp; (try with_reducible rfl))
            (try simp only [Act.put, List.setIfInBounds_toArray, List.set_cons_zero, List.set_cons_succ])
            refine wpAnyH_ready (rs := [9]) (by kernel_rfl) (by simp) ?_
            refine (AllReadyH.cons (o := { dst := none, op := Go.Op.store 28 (Go.Operand.tmp 10) (Go.Operand.tmp 43), type := 0, pos := "more.go:66", after := #[{ on := 7, ground := Go.Ground.data }, { on := 6, ground := Go.Ground.data }, { on := 8, ground := Go.Ground.chain }, { on := 0, ground := Go.Ground.phase }, { on := 1, ground := Go.Ground.phase }, { on := 2, ground := Go.Ground.phase }, { on := 3, ground := Go.Ground.phase }, { on := 4, ground := Go.Ground.phase }, { on := 5, ground := Go.Ground.phase }, { on := 6, ground := Go.Ground.phase }, { on := 7, ground := Go.Ground.phase }, { on := 8, ground := Go.Ground.phase }], guard := none }) rfl (fun K hK => ?_) AllReadyH.nil)
            go_simp
            refine hK.out _ _ (HKc.out _ (ZO.out.alloc ZO.out.size _)) (fun hHeld2 => ?_)
            clear hK K hHeld
            have hHeld := hHeld2
            clear hHeld2
            (try simp only [Act.put, List.setIfInBounds_toArray, List.set_cons_zero, List.set_cons_succ])
            refine wpAnyH_done (by kernel_rfl) ?_ _
            go_wp2_with fail
            go_meet
            exact Lib.hid (Cu.last ⟨4, 0, 0, 0, 0, 0, 3⟩ HN9.out ZO.out)
          · go_simp
            have HGS := Lib.hid (show wr.heap.size ≤ wb.heap.size from ZC.out.size)
            have ZO := ZC
            have EO := Lib.hid (show Bf (wb.alloc (.cells #[.int .i64 0, .int .i64 0, .int .i64 0, .int .u64 0, .int .u64 0, .int .u64 0, .int .i64 0] 28)) wb.heap.size f0 from Bf.new wb f0)
            replace ZC := Lib.hid (ZO.out.alloc ZO.out.size (.cells #[.int .i64 0, .int .i64 0, .int .i64 0, .int .u64 0, .int .u64 0, .int .u64 0, .int .i64 0] 28))
            refine hK.out _ _ (HKc.out _ ZC.out) (fun hHeld2 => ?_)
            clear hK K hHeld
            have hHeld := hHeld2
            clear hHeld2
            (try simp only [Act.put, List.setIfInBounds_toArray, List.set_cons_zero, List.set_cons_succ])
            refine wpAnyH_ready (rs := [3]) (by kernel_rfl) (by simp) ?_
            refine (AllReadyH.cons (o := { dst := some 41, op := Go.Op.call { callee := Go.Callee.value (Go.Operand.func 18), args := #[Go.Operand.tmp 38, Go.Operand.tmp 39, Go.Operand.tmp 40], argTypes := #[23, 25, 28] }, type := 30, pos := "more.go:66", after := #[{ on := 0, ground := Go.Ground.data }, { on := 1, ground := Go.Ground.data }, { on := 2, ground := Go.Ground.data }, { on := 2, ground := Go.Ground.chain }], guard := none }) rfl (fun K hK => ?_) AllReadyH.nil)
            go_simp
            refine (one_out (LM.out.below ZC.out) HL4.out HS.out HU4.out.1 ⟨U0, U0, U0⟩ rfl E3.out).mono ?_
            rintro e wo ⟨A9, c9, rfl, hn9, zo⟩
            go_wp2_with fail
            have HN9 := Lib.hid hn9
            replace ZC := Lib.hid (keep_call zo ZC.out)
            have HLT := Lib.hid EO.out.lt
            replace EO := Lib.hid (EO.out.after zo)
            obtain ⟨d0, d1, d2, d3, d4, d5, d6⟩ := EO.out.cells
            have fz := EO.out.free
            have ld := EO.out.lt
            clear hn9 zo
            refine hK.out _ _ (HKc.out _ ZC.out) (fun hHeld2 => ?_)
            clear hK K hHeld
            have hHeld := hHeld2
            clear hHeld2
            (try simp only [Act.put, List.setIfInBounds_toArray, List.set_cons_zero, List.set_cons_succ])
            refine wpAnyH_take (i := 4) (oi := { dst := some 37, op := Go.Op.move (Go.Operand.tmp 41), type := 30, pos := "more.go:66", after := #[{ on := 3, ground := Go.Ground.data }], guard := none }) (v := ?vqb7) rfl (by kernel_rfl) (by kernel_rfl) (by kernel_rfl) (fun _ _ _ h => h) (Or.inl ⟨by rfl, ?yqb7⟩) (by assumption) ?rqb7
            case yqb7 => (intro w hSw; (try dsimp only at hSw); go_simp; (try with_reducible rfl))
            (try simp only [Act.put, List.setIfInBounds_toArray, List.set_cons_zero, List.set_cons_succ])
            refine wpAnyH_take (i := 5) (oi := { dst := some 42, op := Go.Op.extract (Go.Operand.tmp 37) 0, type := 25, pos := "more.go:66", after := #[{ on := 4, ground := Go.Ground.data }], guard := none }) (v := ?vqb8) rfl (by kernel_rfl) (by kernel_rfl) (by kernel_rfl) (fun _ _ _ h => h) (Or.inl ⟨by rfl, ?yqb8⟩) (by assumption) ?rqb8
            case yqb8 => (intro w hSw; (try dsimp only at hSw); go_simp; (try with_reducible rfl))
            (try simp only [Act.put, List.setIfInBounds_toArray, List.set_cons_zero, List.set_cons_succ])
            refine wpAnyH_take (i := 6) (oi := { dst := some 43, op := Go.Op.extract (Go.Operand.tmp 37) 1, type := 28, pos := "more.go:66", after := #[{ on := 4, ground := Go.Ground.data }, { on := 8, ground := Go.Ground.gcOnly Go.Departure.lateStores }], guard := none }) (v := ?vqb9) rfl (by kernel_rfl) (by kernel_rfl) (by kernel_rfl) (fun _ _ _ h => h) (Or.inl ⟨by rfl, ?yqb9⟩) (by assumption) ?rqb9
            case yqb9 => (intro w hSw; (try dsimp only at hSw); go_simp; (try with_reducible rfl))
            (try simp only [Act.put, List.setIfInBounds_toArray, List.set_cons_zero, List.set_cons_succ])
            refine wpAnyH_take (i := 8) (oi := { dst := some 9, op := Go.Op.assign (Go.Operand.tmp 42), type := 25, pos := "more.go:66", after := #[{ on := 5, ground := Go.Ground.data }, { on := 3, ground := Go.Ground.chain }, { on := 0, ground := Go.Ground.phase }, { on := 1, ground := Go.Ground.phase }, { on := 2, ground := Go.Ground.phase }, { on := 3, ground := Go.Ground.phase }, { on := 4, ground := Go.Ground.phase }, { on := 5, ground := Go.Ground.phase }, { on := 6, ground := Go.Ground.textOnly Go.Departure.lateStores }, { on := 7, ground := Go.Ground.phase }], guard := none }) (v := ?vqb10) rfl (by kernel_rfl) (by kernel_rfl) (by kernel_rfl) (fun _ _ _ h => h) (Or.inl ⟨by rfl, ?yqb10⟩) (by assumption) ?rqb10
            case yqb10 => (intro w hSw; (try dsimp only at hSw); go_simp; (try with_reducible rfl))
            (try simp only [Act.put, List.setIfInBounds_toArray, List.set_cons_zero, List.set_cons_succ])
            refine wpAnyH_ready (rs := [9]) (by kernel_rfl) (by simp) ?_
            refine (AllReadyH.cons (o := { dst := none, op := Go.Op.store 28 (Go.Operand.tmp 10) (Go.Operand.tmp 43), type := 0, pos := "more.go:66", after := #[{ on := 7, ground := Go.Ground.data }, { on := 6, ground := Go.Ground.data }, { on := 8, ground := Go.Ground.chain }, { on := 0, ground := Go.Ground.phase }, { on := 1, ground := Go.Ground.phase }, { on := 2, ground := Go.Ground.phase }, { on := 3, ground := Go.Ground.phase }, { on := 4, ground := Go.Ground.phase }, { on := 5, ground := Go.Ground.phase }, { on := 6, ground := Go.Ground.phase }, { on := 7, ground := Go.Ground.phase }, { on := 8, ground := Go.Ground.phase }], guard := none }) rfl (fun K hK => ?_) AllReadyH.nil)
            go_simp
            refine hK.out _ _ (hd_set7g HKc.out HGS.out _ _ _ _ _ _ _ ZC.out) (fun hHeld2 => ?_)
            clear hK K hHeld
            have hHeld := hHeld2
            clear hHeld2
            (try simp only [Act.put, List.setIfInBounds_toArray, List.set_cons_zero, List.set_cons_succ])
            refine wpAnyH_done (by kernel_rfl) ?_ _
            go_wp2_with fail
            go_meet
            exact Lib.hid (Cu.box ⟨4, 0, 0, 0, 0, 0, 3⟩ EO.out HGS.out HN9.out HLT.out ZC.out)
        · go_simp
          have HGS := Lib.hid (show wr.heap.size ≤ wr.heap.size from ZC.out.size)
          have ZO := ZC
          have EO := Lib.hid (show Bf (wr.drew.alloc (.cells #[.int .i64 0, .int .i64 0, .int .i64 0, .int .u64 0, .int .u64 0, .int .u64 0, .int .i64 0] 28)) wr.heap.size f0 from Bf.new wr.drew f0)
          replace ZC := Lib.hid (ZO.out.alloc ZO.out.size (.cells #[.int .i64 0, .int .i64 0, .int .i64 0, .int .u64 0, .int .u64 0, .int .u64 0, .int .i64 0] 28))
          refine hK.out _ _ (HKc.out _ ZC.out) (fun hHeld2 => ?_)
          clear hK K hHeld
          have hHeld := hHeld2
          clear hHeld2
          (try simp only [Act.put, List.setIfInBounds_toArray, List.set_cons_zero, List.set_cons_succ])
          refine wpAnyH_ready (rs := [2]) (by kernel_rfl) (by simp) ?_
          refine (AllReadyH.cons (o := { dst := some 40, op := Go.Op.call { callee := Go.Callee.value (Go.Operand.func 16), args := #[Go.Operand.const (Go.Value.int Go.IntKind.i64 4), Go.Operand.const (Go.Value.int Go.IntKind.i64 0), Go.Operand.const (Go.Value.int Go.IntKind.u64 0)], argTypes := #[3, 3, 26] }, type := 28, pos := "more.go:66", after := #[], guard := none }) rfl (fun K hK => ?_) AllReadyH.nil)
          go_simp
          refine (begin_any 4 0 0 _).mono ?_
          rintro e wb ⟨rfl, zb⟩
          go_wp2_with fail
          replace ZC := Lib.hid (keep_call zb ZC.out)
          replace EO := Lib.hid (EO.out.after zb)
          clear zb
          refine hK.out _ _ (HKc.out _ ZC.out) (fun hHeld2 => ?_)
          clear hK K hHeld
          have hHeld := hHeld2
          clear hHeld2
          (try simp only [Act.put, List.setIfInBounds_toArray, List.set_cons_zero, List.set_cons_succ])
          refine wpAnyH_ready (rs := [3]) (by kernel_rfl) (by simp) ?_
          refine (AllReadyH.cons (o := { dst := some 41, op := Go.Op.call { callee := Go.Callee.value (Go.Operand.func 18), args := #[Go.Operand.tmp 38, Go.Operand.tmp 39, Go.Operand.tmp 40], argTypes := #[23, 25, 28] }, type := 30, pos := "more.go:66", after := #[{ on := 0, ground := Go.Ground.data }, { on := 1, ground := Go.Ground.data }, { on := 2, ground := Go.Ground.data }, { on := 2, ground := Go.Ground.chain }], guard := none }) rfl (fun K hK => ?_) AllReadyH.nil)
          go_simp
          refine (one_out (LM.out.below ZC.out) HL4.out HS.out HU4.out.1 ⟨U0, U0, U0⟩ rfl E3.out).mono ?_
          rintro e wo ⟨A9, c9, rfl, hn9, zo⟩
          go_wp2_with fail
          have HN9 := Lib.hid hn9
          replace ZC := Lib.hid (keep_call zo ZC.out)
          have HLT := Lib.hid EO.out.lt
          replace EO := Lib.hid (EO.out.after zo)
          obtain ⟨d0, d1, d2, d3, d4, d5, d6⟩ := EO.out.cells
          have fz := EO.out.free
          have ld := EO.out.lt
          clear hn9 zo
          refine hK.out _ _ (HKc.out _ ZC.out) (fun hHeld2 => ?_)
          clear hK K hHeld
          have hHeld := hHeld2
          clear hHeld2
          (try simp only [Act.put, List.setIfInBounds_toArray, List.set_cons_zero, List.set_cons_succ])
          refine wpAnyH_take (i := 4) (oi := { dst := some 37, op := Go.Op.move (Go.Operand.tmp 41), type := 30, pos := "more.go:66", after := #[{ on := 3, ground := Go.Ground.data }], guard := none }) (v := ?vqb11) rfl (by kernel_rfl) (by kernel_rfl) (by kernel_rfl) (fun _ _ _ h => h) (Or.inl ⟨by rfl, ?yqb11⟩) (by assumption) ?rqb11
          case yqb11 => (intro w hSw; (try dsimp only at hSw); go_simp; (try with_reducible rfl))
          (try simp only [Act.put, List.setIfInBounds_toArray, List.set_cons_zero, List.set_cons_succ])
          refine wpAnyH_take (i := 5) (oi := { dst := some 42, op := Go.Op.extract (Go.Operand.tmp 37) 0, type := 25, pos := "more.go:66", after := #[{ on := 4, ground := Go.Ground.data }], guard := none }) (v := ?vqb12) rfl (by kernel_rfl) (by kernel_rfl) (by kernel_rfl) (fun _ _ _ h => h) (Or.inl ⟨by rfl, ?yqb12⟩) (by assumption) ?rqb12
          case yqb12 => (intro w hSw; (try dsimp only at hSw); go_simp; (try with_reducible rfl))
          (try simp only [Act.put, List.setIfInBounds_toArray, List.set_cons_zero, List.set_cons_succ])
          refine wpAnyH_take (i := 6) (oi := { dst := some 43, op := Go.Op.extract (Go.Operand.tmp 37) 1, type := 28, pos := "more.go:66", after := #[{ on := 4, ground := Go.Ground.data }, { on := 8, ground := Go.Ground.gcOnly Go.Departure.lateStores }], guard := none }) (v := ?vqb13) rfl (by kernel_rfl) (by kernel_rfl) (by kernel_rfl) (fun _ _ _ h => h) (Or.inl ⟨by rfl, ?yqb13⟩) (by assumption) ?rqb13
          case yqb13 => (intro w hSw; (try dsimp only at hSw); go_simp; (try with_reducible rfl))
          (try simp only [Act.put, List.setIfInBounds_toArray, List.set_cons_zero, List.set_cons_succ])
          refine wpAnyH_take (i := 8) (oi := { dst := some 9, op := Go.Op.assign (Go.Operand.tmp 42), type := 25, pos := "more.go:66", after := #[{ on := 5, ground := Go.Ground.data }, { on := 3, ground := Go.Ground.chain }, { on := 0, ground := Go.Ground.phase }, { on := 1, ground := Go.Ground.phase }, { on := 2, ground := Go.Ground.phase }, { on := 3, ground := Go.Ground.phase }, { on := 4, ground := Go.Ground.phase }, { on := 5, ground := Go.Ground.phase }, { on := 6, ground := Go.Ground.textOnly Go.Departure.lateStores }, { on := 7, ground := Go.Ground.phase }], guard := none }) (v := ?vqb14) rfl (by kernel_rfl) (by kernel_rfl) (by kernel_rfl) (fun _ _ _ h => h) (Or.inl ⟨by rfl, ?yqb14⟩) (by assumption) ?rqb14
          case yqb14 => (intro w hSw; (try dsimp only at hSw); go_simp; (try with_reducible rfl))
          (try simp only [Act.put, List.setIfInBounds_toArray, List.set_cons_zero, List.set_cons_succ])
          refine wpAnyH_ready (rs := [9]) (by kernel_rfl) (by simp) ?_
          refine (AllReadyH.cons (o := { dst := none, op := Go.Op.store 28 (Go.Operand.tmp 10) (Go.Operand.tmp 43), type := 0, pos := "more.go:66", after := #[{ on := 7, ground := Go.Ground.data }, { on := 6, ground := Go.Ground.data }, { on := 8, ground := Go.Ground.chain }, { on := 0, ground := Go.Ground.phase }, { on := 1, ground := Go.Ground.phase }, { on := 2, ground := Go.Ground.phase }, { on := 3, ground := Go.Ground.phase }, { on := 4, ground := Go.Ground.phase }, { on := 5, ground := Go.Ground.phase }, { on := 6, ground := Go.Ground.phase }, { on := 7, ground := Go.Ground.phase }, { on := 8, ground := Go.Ground.phase }], guard := none }) rfl (fun K hK => ?_) AllReadyH.nil)
          go_simp
          refine hK.out _ _ (hd_set7g HKc.out HGS.out _ _ _ _ _ _ _ ZC.out) (fun hHeld2 => ?_)
          clear hK K hHeld
          have hHeld := hHeld2
          clear hHeld2
          (try simp only [Act.put, List.setIfInBounds_toArray, List.set_cons_zero, List.set_cons_succ])
          refine wpAnyH_done (by kernel_rfl) ?_ _
          go_wp2_with fail
          go_meet
          exact Lib.hid (Cu.box ⟨4, 0, 0, 0, 0, 0, 3⟩ EO.out HGS.out HN9.out HLT.out ZC.out)
      case rest =>
        obtain ⟨g1, A1, c1, rfl, rfl, hB, hR, hz⟩ := hcut.out
        replace BX := Lib.hid (BX.out.below hz)
        replace BF := Lib.hid (BF.out.after hz)
        replace LM := Lib.hid (LM.out.below hz)
        replace Z := Lib.hid (Z.out.trans (hz.mono Z.out.size))
        have BG := Lib.hid hB
        have LN := Lib.hid hR
        clear hB hR hz hcut
        obtain ⟨gx, x_0, x_1, x_2, x_3⟩ := BX.out
        obtain ⟨a0, a1, a2, a3, a4, a5, a6⟩ := BF.out.cells
        have la := BF.out.lt
        obtain ⟨b0, b1, b2, b3, b4, b5, b6⟩ := BG.out.cells
        have lb := BG.out.lt
        simp only at b0 b1 b2 b3 b4 b5 b6
        have hres : (f4.res != 0) = false := by rw [E2.out]; rfl
        go_wp2_with fail
        refine (Tells.of (over_any f4 _) (v' := .bool false) (by rw [hres])).mono ?_
        rintro _ w8 ⟨rfl, z⟩
        clear gx x_0 x_1 x_2 x_3 a0 a1 a2 a3 a4 a5 a6 la b0 b1 b2 b3 b4 b5 b6 lb
        replace Z := Lib.hid (Z.out.trans (z.mono Z.out.size))
        replace BX := Lib.hid (BX.out.below z)
        replace BF := Lib.hid (BF.out.after z)
        replace LM := Lib.hid (LM.out.below z)
        replace BG := Lib.hid (BG.out.after z)
        replace LN := Lib.hid (LN.out.below z)
        clear z
        obtain ⟨gx, x_0, x_1, x_2, x_3⟩ := BX.out
        obtain ⟨a0, a1, a2, a3, a4, a5, a6⟩ := BF.out.cells
        have la := BF.out.lt
        obtain ⟨b0, b1, b2, b3, b4, b5, b6⟩ := BG.out.cells
        have lb := BG.out.lt
        simp only at b0 b1 b2 b3 b4 b5 b6
        go_wp2_with fail
        refine (Tells.of (qlen_any W D J S A1 n c1 m4 _ LN.out HL4.out HS.out) (v' := .int .i64 1) (by rw [E4.out])).mono ?_
        rintro _ w9 ⟨rfl, z⟩
        clear gx x_0 x_1 x_2 x_3 a0 a1 a2 a3 a4 a5 a6 la b0 b1 b2 b3 b4 b5 b6 lb
        replace Z := Lib.hid (Z.out.trans (z.mono Z.out.size))
        replace BX := Lib.hid (BX.out.below z)
        replace BF := Lib.hid (BF.out.after z)
        replace LM := Lib.hid (LM.out.below z)
        replace BG := Lib.hid (BG.out.after z)
        replace LN := Lib.hid (LN.out.below z)
        clear z
        obtain ⟨gx, x_0, x_1, x_2, x_3⟩ := BX.out
        obtain ⟨a0, a1, a2, a3, a4, a5, a6⟩ := BF.out.cells
        have la := BF.out.lt
        obtain ⟨b0, b1, b2, b3, b4, b5, b6⟩ := BG.out.cells
        have lb := BG.out.lt
        simp only at b0 b1 b2 b3 b4 b5 b6
        have HZF := Lib.hid Z.out.size
        have HBF := Lib.hid BF.out.lt
        go_wp2_with fail
        refine (enq_n LN.out HL4.out HS.out HU4.out.2 E5.out).mono ?_
        rintro _ w10 ⟨A10, c10, rfl, hn10, z⟩
        clear gx x_0 x_1 x_2 x_3 a0 a1 a2 a3 a4 a5 a6 la b0 b1 b2 b3 b4 b5 b6 lb
        replace Z := Lib.hid (Z.out.trans (z.mono Z.out.size))
        replace BX := Lib.hid (BX.out.below z)
        replace BF := Lib.hid (BF.out.after z)
        replace LM := Lib.hid (LM.out.below z)
        replace BG := Lib.hid (BG.out.after z)
        replace LN := Lib.hid (LN.out.below z)
        have HN5 := Lib.hid (hn10.pf HBF.out ⟨3, 0, 0, v, 0, 0, 1⟩)
        clear hn10 z
        have HBG := Lib.hid BG.out.lt
        obtain ⟨a0, a1, a2, a3, a4, a5, a6⟩ := BF.out.cells
        have la := BF.out.lt
        have fz := BF.out.free
        have lBF := BF.out.lt
        go_upto_region 14 with fail
        change Code.wp _ _ _ _ (pf w10 w4.heap.size ⟨3, 0, 0, v, 0, 0, 1⟩)
        have KB := Lib.hid ((Kb.refl w4.heap.size w10).pf ⟨3, 0, 0, v, 0, 0, 1⟩)
        replace BF := Lib.hid (BF.out.pf ⟨3, 0, 0, v, 0, 0, 1⟩)
        replace Z := Lib.hid (Z.out.trans (KB.out.low.mono hzf.out))
        replace BX := Lib.hid (BX.out.kb KB.out (Nat.ne_of_lt HG4.out))
        clear a0 a1 a2 a3 a4 a5 a6 la
        generalize pf w10 w4.heap.size ⟨3, 0, 0, v, 0, 0, 1⟩ = wd at BF BX Z HN5 ⊢
        have LM2 := Lib.hid HN5.out.rd
        clear KB fz lBF LM LN HN5 BG HBG HBF
        have LM := LM2
        clear LM2
        obtain ⟨gx, x_0, x_1, x_2, x_3⟩ := BX.out
        obtain ⟨a0, a1, a2, a3, a4, a5, a6⟩ := BF.out.cells
        have la := BF.out.lt
        simp only at a0 a1 a2 a3 a4 a5 a6
        go_wp2_with fail
        clear gx x_0 x_1 x_2 x_3 a0 a1 a2 a3 a4 a5 a6 la
        go_cut [11, 12] from 64 to 70 (fun x t wz => Hid (Cu wd n m6 ⟨4, 0, 0, v, 0, 0, 1⟩ x t wz))
        case first =>
          have HKc := Lib.hid (show ∀ x', Below wd.heap.size wd x' → (fun w' => w'.cell? ⟨w.heap.size, 0, none⟩ = some (.int .i64 W) ∧ w'.cell? ⟨w.heap.size, 1, none⟩ = some (.int .i64 D) ∧ w'.cell? ⟨w.heap.size, 2, none⟩ = some (.int .i64 J) ∧ w'.cell? ⟨w.heap.size, 3, none⟩ = some (.int .i64 S) ∧ Below wd.heap.size wd w') x' from fun x' hx => by
            obtain ⟨_, e0, e1, e2, e3⟩ := BX.out.below hx
            exact ⟨e0, e1, e2, e3, hx⟩)
          have hHeld0 := HKc.out _ (Below.refl _ _)
          have ZC := Lib.hid (Below.refl wd.heap.size wd).drew
          refine wp_region_held_drew (S := fun w' => w'.cell? ⟨w.heap.size, 0, none⟩ = some (.int .i64 W) ∧ w'.cell? ⟨w.heap.size, 1, none⟩ = some (.int .i64 D) ∧ w'.cell? ⟨w.heap.size, 2, none⟩ = some (.int .i64 J) ∧ w'.cell? ⟨w.heap.size, 3, none⟩ = some (.int .i64 S) ∧ Below wd.heap.size wd w') (by kernel_rfl) (hd_drew HKc.out (fun _ h => h.2.2.2.2) hHeld0) (fun hHeld => ?_)
          refine wpAnyH_take (i := 0) (oi := { dst := some 65, op := Go.Op.load 23 (Go.Operand.tmp 2), type := 23, pos := "more.go:71", after := #[], guard := none }) (v := ?vqc1) rfl (by kernel_rfl) (by kernel_rfl) (by kernel_rfl) (fun _ _ _ h => h) (Or.inl ⟨by rfl, ?yqc1⟩) (by assumption) ?rqc1
          case yqc1 => (intro w hSw; (try dsimp only at hSw); go_simp; (try with_reducible rfl))
          (try simp only [Act.put, List.setIfInBounds_toArray, List.set_cons_zero, List.set_cons_succ])
          refine wpAnyH_take (i := 1) (oi := { dst := some 66, op := Go.Op.move (Go.Operand.tmp 9), type := 25, pos := "more.go:71", after := #[], guard := none }) (v := ?vqc2) rfl (by kernel_rfl) (by kernel_rfl) (by kernel_rfl) (fun _ _ _ h => h) (Or.inl ⟨by rfl, ?yqc2⟩) (by assumption) ?rqc2
          case yqc2 => (intro w hSw; (try dsimp only at hSw); go_simp; (try with_reducible rfl))
          (try simp only [Act.put, List.setIfInBounds_toArray, List.set_cons_zero, List.set_cons_succ])
          refine wpAnyH_ready (rs := [2, 7]) (by kernel_rfl) (by simp) ?_
          refine (AllReadyH.cons (o := { dst := some 67, op := Go.Op.call { callee := Go.Callee.value (Go.Operand.func 16), args := #[Go.Operand.const (Go.Value.int Go.IntKind.i64 4), Go.Operand.const (Go.Value.int Go.IntKind.i64 0), Go.Operand.const (Go.Value.int Go.IntKind.u64 0)], argTypes := #[3, 3, 26] }, type := 28, pos := "more.go:71", after := #[], guard := none }) rfl (fun K hK => ?_) (AllReadyH.cons (o := { dst := some 12, op := Go.Op.alloc 28, type := 0, pos := "more.go:71", after := #[], guard := none }) rfl (fun K hK => ?_) AllReadyH.nil))
          · go_simp
            refine (begin_any 4 0 0 _).mono ?_
            rintro e wb ⟨rfl, zb⟩
            go_wp2_with fail
            replace ZC := Lib.hid (keep_call zb ZC.out)
            clear zb
            refine hK.out _ _ (HKc.out _ ZC.out) (fun hHeld2 => ?_)
            clear hK K hHeld
            have hHeld := hHeld2
            clear hHeld2
            (try simp only [Act.put, List.setIfInBounds_toArray, List.set_cons_zero, List.set_cons_succ])
            refine wpAnyH_ready (rs := [3, 7]) (by kernel_rfl) (by simp) ?_
            refine (AllReadyH.cons (o := { dst := some 68, op := Go.Op.call { callee := Go.Callee.value (Go.Operand.func 18), args := #[Go.Operand.tmp 65, Go.Operand.tmp 66, Go.Operand.tmp 67], argTypes := #[23, 25, 28] }, type := 30, pos := "more.go:71", after := #[{ on := 0, ground := Go.Ground.data }, { on := 1, ground := Go.Ground.data }, { on := 2, ground := Go.Ground.data }, { on := 2, ground := Go.Ground.chain }], guard := none }) rfl (fun K hK => ?_) (AllReadyH.cons (o := { dst := some 12, op := Go.Op.alloc 28, type := 0, pos := "more.go:71", after := #[], guard := none }) rfl (fun K hK => ?_) AllReadyH.nil))
            · go_simp
              refine (one_out (LM.out.below ZC.out) HL5.out HS.out HU5.out ⟨U0, U0, U0⟩ rfl E6.out).mono ?_
              rintro e wo ⟨A9, c9, rfl, hn9, zo⟩
              go_wp2_with fail
              have HN9 := Lib.hid hn9
              replace ZC := Lib.hid (keep_call zo ZC.out)
              clear hn9 zo
              refine hK.out _ _ (HKc.out _ ZC.out) (fun hHeld2 => ?_)
              clear hK K hHeld
              have hHeld := hHeld2
              clear hHeld2
              (try simp only [Act.put, List.setIfInBounds_toArray, List.set_cons_zero, List.set_cons_succ])
              refine wpAnyH_take (i := 4) (oi := { dst := some 64, op := Go.Op.move (Go.Operand.tmp 68), type := 30, pos := "more.go:71", after := #[{ on := 3, ground := Go.Ground.data }], guard := none }) (v := ?vqc3) rfl (by kernel_rfl) (by kernel_rfl) (by kernel_rfl) (fun _ _ _ h => h) (Or.inl ⟨by rfl, ?yqc3⟩) (by assumption) ?rqc3
              case yqc3 => (intro w hSw; (try dsimp only at hSw); go_simp; (try with_reducible rfl))
              (try simp only [Act.put, List.setIfInBounds_toArray, List.set_cons_zero, List.set_cons_succ])
              refine wpAnyH_take (i := 5) (oi := { dst := some 69, op := Go.Op.extract (Go.Operand.tmp 64) 0, type := 25, pos := "more.go:71", after := #[{ on := 4, ground := Go.Ground.data }], guard := none }) (v := ?vqc4) rfl (by kernel_rfl) (by kernel_rfl) (by kernel_rfl) (fun _ _ _ h => h) (Or.inl ⟨by rfl, ?yqc4⟩) (by assumption) ?rqc4
              case yqc4 => (intro w hSw; (try dsimp only at hSw); go_simp; (try with_reducible rfl))
              (try simp only [Act.put, List.setIfInBounds_toArray, List.set_cons_zero, List.set_cons_succ])
              refine wpAnyH_take (i := 6) (oi := { dst := some 70, op := Go.Op.extract (Go.Operand.tmp 64) 1, type := 28, pos := "more.go:71", after := #[{ on := 4, ground := Go.Ground.data }, { on := 8, ground := Go.Ground.gcOnly Go.Departure.lateStores }], guard := none }) (v := ?vqc5) rfl (by kernel_rfl) (by kernel_rfl) (by kernel_rfl) (fun _ _ _ h => h) (Or.inl ⟨by rfl, ?yqc5⟩) (by assumption) ?rqc5
              case yqc5 => (intro w hSw; (try dsimp only at hSw); go_simp; (try with_reducible rfl))
              (try simp only [Act.put, List.setIfInBounds_toArray, List.set_cons_zero, List.set_cons_succ])
              refine wpAnyH_ready (rs := [7]) (by kernel_rfl) (by simp) ?_
              refine (AllReadyH.cons (o := { dst := some 12, op := Go.Op.alloc 28, type := 0, pos := "more.go:71", after := #[], guard := none }) rfl (fun K hK => ?_) AllReadyH.nil)
              go_simp
              have HGS := Lib.hid (show wd.heap.size ≤ wo.heap.size from ZC.out.size)
              have ZO := ZC
              have EO := Lib.hid (show Bf (wo.alloc (.cells #[.int .i64 0, .int .i64 0, .int .i64 0, .int .u64 0, .int .u64 0, .int .u64 0, .int .i64 0] 28)) wo.heap.size f0 from Bf.new wo f0)
              replace ZC := Lib.hid (ZO.out.alloc ZO.out.size (.cells #[.int .i64 0, .int .i64 0, .int .i64 0, .int .u64 0, .int .u64 0, .int .u64 0, .int .i64 0] 28))
              refine hK.out _ _ (HKc.out _ ZC.out) (fun hHeld2 => ?_)
              clear hK K hHeld
              have hHeld := hHeld2
              clear hHeld2
              (try simp only [Act.put, List.setIfInBounds_toArray, List.set_cons_zero, List.set_cons_succ])
              refine wpAnyH_take (i := 8) (oi := { dst := some 11, op := Go.Op.assign (Go.Operand.tmp 69), type := 25, pos := "more.go:71", after := #[{ on := 5, ground := Go.Ground.data }, { on := 3, ground := Go.Ground.chain }, { on := 0, ground := Go.Ground.phase }, { on := 1, ground := Go.Ground.phase }, { on := 2, ground := Go.Ground.phase }, { on := 3, ground := Go.Ground.phase }, { on := 4, ground := Go.Ground.phase }, { on := 5, ground := Go.Ground.phase }, { on := 6, ground := Go.Ground.textOnly Go.Departure.lateStores }, { on := 7, ground := Go.Ground.phase }], guard := none }) (v := ?vqc6) rfl (by kernel_rfl) (by kernel_rfl) (by kernel_rfl) (fun _ _ _ h => h) (Or.inl ⟨by rfl, ?yqc6⟩) (by assumption) ?rqc6
              case yqc6 => (intro w hSw; (try dsimp only at hSw); go_simp; (try with_reducible rfl))
              (try simp only [Act.put, List.setIfInBounds_toArray, List.set_cons_zero, List.set_cons_succ])
              refine wpAnyH_ready (rs := [9]) (by kernel_rfl) (by simp) ?_
              refine (AllReadyH.cons (o := { dst := none, op := Go.Op.store 28 (Go.Operand.tmp 12) (Go.Operand.tmp 70), type := 0, pos := "more.go:71", after := #[{ on := 7, ground := Go.Ground.data }, { on := 6, ground := Go.Ground.data }, { on := 8, ground := Go.Ground.chain }, { on := 0, ground := Go.Ground.phase }, { on := 1, ground := Go.Ground.phase }, { on := 2, ground := Go.Ground.phase }, { on := 3, ground := Go.Ground.phase }, { on := 4, ground := Go.Ground.phase }, { on := 5, ground := Go.Ground.phase }, { on := 6, ground := Go.Ground.phase }, { on := 7, ground := Go.Ground.phase }, { on := 8, ground := Go.Ground.phase }], guard := none }) rfl (fun K hK => ?_) AllReadyH.nil)
              go_simp
              refine hK.out _ _ (HKc.out _ (ZO.out.alloc ZO.out.size _)) (fun hHeld2 => ?_)
              clear hK K hHeld
              have hHeld := hHeld2
              clear hHeld2
              (try simp only [Act.put, List.setIfInBounds_toArray, List.set_cons_zero, List.set_cons_succ])
              refine wpAnyH_done (by kernel_rfl) ?_ _
              go_wp2_with fail
              go_meet
              exact Lib.hid (Cu.last ⟨4, 0, 0, v, 0, 0, 1⟩ HN9.out ZO.out)
            · go_simp
              have HGS := Lib.hid (show wd.heap.size ≤ wb.heap.size from ZC.out.size)
              have ZO := ZC
              have EO := Lib.hid (show Bf (wb.alloc (.cells #[.int .i64 0, .int .i64 0, .int .i64 0, .int .u64 0, .int .u64 0, .int .u64 0, .int .i64 0] 28)) wb.heap.size f0 from Bf.new wb f0)
              replace ZC := Lib.hid (ZO.out.alloc ZO.out.size (.cells #[.int .i64 0, .int .i64 0, .int .i64 0, .int .u64 0, .int .u64 0, .int .u64 0, .int .i64 0] 28))
              refine hK.out _ _ (HKc.out _ ZC.out) (fun hHeld2 => ?_)
              clear hK K hHeld
              have hHeld := hHeld2
              clear hHeld2
              (try simp only [Act.put, List.setIfInBounds_toArray, List.set_cons_zero, List.set_cons_succ])
              refine wpAnyH_ready (rs := [3]) (by kernel_rfl) (by simp) ?_
              refine (AllReadyH.cons (o := { dst := some 68, op := Go.Op.call { callee := Go.Callee.value (Go.Operand.func 18), args := #[Go.Operand.tmp 65, Go.Operand.tmp 66, Go.Operand.tmp 67], argTypes := #[23, 25, 28] }, type := 30, pos := "more.go:71", after := #[{ on := 0, ground := Go.Ground.data }, { on := 1, ground := Go.Ground.data }, { on := 2, ground := Go.Ground.data }, { on := 2, ground := Go.Ground.chain }], guard := none }) rfl (fun K hK => ?_) AllReadyH.nil)
              go_simp
              refine (one_out (LM.out.below ZC.out) HL5.out HS.out HU5.out ⟨U0, U0, U0⟩ rfl E6.out).mono ?_
              rintro e wo ⟨A9, c9, rfl, hn9, zo⟩
              go_wp2_with fail
              have HN9 := Lib.hid hn9
              replace ZC := Lib.hid (keep_call zo ZC.out)
              have HLT := Lib.hid EO.out.lt
              replace EO := Lib.hid (EO.out.after zo)
              obtain ⟨d0, d1, d2, d3, d4, d5, d6⟩ := EO.out.cells
              have fz := EO.out.free
              have ld := EO.out.lt
              clear hn9 zo
              refine hK.out _ _ (HKc.out _ ZC.out) (fun hHeld2 => ?_)
              clear hK K hHeld
              have hHeld := hHeld2
              clear hHeld2
              (try simp only [Act.put, List.setIfInBounds_toArray, List.set_cons_zero, List.set_cons_succ])
              refine wpAnyH_take (i := 4) (oi := { dst := some 64, op := Go.Op.move (Go.Operand.tmp 68), type := 30, pos := "more.go:71", after := #[{ on := 3, ground := Go.Ground.data }], guard := none }) (v := ?vqc7) rfl (by kernel_rfl) (by kernel_rfl) (by kernel_rfl) (fun _ _ _ h => h) (Or.inl ⟨by rfl, ?yqc7⟩) (by assumption) ?rqc7
              case yqc7 => (intro w hSw; (try dsimp only at hSw); go_simp; (try with_reducible rfl))
              (try simp only [Act.put, List.setIfInBounds_toArray, List.set_cons_zero, List.set_cons_succ])
              refine wpAnyH_take (i := 5) (oi := { dst := some 69, op := Go.Op.extract (Go.Operand.tmp 64) 0, type := 25, pos := "more.go:71", after := #[{ on := 4, ground := Go.Ground.data }], guard := none }) (v := ?vqc8) rfl (by kernel_rfl) (by kernel_rfl) (by kernel_rfl) (fun _ _ _ h => h) (Or.inl ⟨by rfl, ?yqc8⟩) (by assumption) ?rqc8
              case yqc8 => (intro w hSw; (try dsimp only at hSw); go_simp; (try with_reducible rfl))
              (try simp only [Act.put, List.setIfInBounds_toArray, List.set_cons_zero, List.set_cons_succ])
              refine wpAnyH_take (i := 6) (oi := { dst := some 70, op := Go.Op.extract (Go.Operand.tmp 64) 1, type := 28, pos := "more.go:71", after := #[{ on := 4, ground := Go.Ground.data }, { on := 8, ground := Go.Ground.gcOnly Go.Departure.lateStores }], guard := none }) (v := ?vqc9) rfl (by kernel_rfl) (by kernel_rfl) (by kernel_rfl) (fun _ _ _ h => h) (Or.inl ⟨by rfl, ?yqc9⟩) (by assumption) ?rqc9
              case yqc9 => (intro w hSw; (try dsimp only at hSw); go_simp; (try with_reducible rfl))
              (try simp only [Act.put, List.setIfInBounds_toArray, List.set_cons_zero, List.set_cons_succ])
              refine wpAnyH_take (i := 8) (oi := { dst := some 11, op := Go.Op.assign (Go.Operand.tmp 69), type := 25, pos := "more.go:71", after := #[{ on := 5, ground := Go.Ground.data }, { on := 3, ground := Go.Ground.chain }, { on := 0, ground := Go.Ground.phase }, { on := 1, ground := Go.Ground.phase }, { on := 2, ground := Go.Ground.phase }, { on := 3, ground := Go.Ground.phase }, { on := 4, ground := Go.Ground.phase }, { on := 5, ground := Go.Ground.phase }, { on := 6, ground := Go.Ground.textOnly Go.Departure.lateStores }, { on := 7, ground := Go.Ground.phase }], guard := none }) (v := ?vqc10) rfl (by kernel_rfl) (by kernel_rfl) (by kernel_rfl) (fun _ _ _ h => h) (Or.inl ⟨by rfl, ?yqc10⟩) (by assumption) ?rqc10
              case yqc10 => (intro w hSw; (try dsimp only at hSw); go_simp; (try with_reducible rfl))
              (try simp only [Act.put, List.setIfInBounds_toArray, List.set_cons_zero, List.set_cons_succ])
              refine wpAnyH_ready (rs := [9]) (by kernel_rfl) (by simp) ?_
              refine (AllReadyH.cons (o := { dst := none, op := Go.Op.store 28 (Go.Operand.tmp 12) (Go.Operand.tmp 70), type := 0, pos := "more.go:71", after := #[{ on := 7, ground := Go.Ground.data }, { on := 6, ground := Go.Ground.data }, { on := 8, ground := Go.Ground.chain }, { on := 0, ground := Go.Ground.phase }, { on := 1, ground := Go.Ground.phase }, { on := 2, ground := Go.Ground.phase }, { on := 3, ground := Go.Ground.phase }, { on := 4, ground := Go.Ground.phase }, { on := 5, ground := Go.Ground.phase }, { on := 6, ground := Go.Ground.phase }, { on := 7, ground := Go.Ground.phase }, { on := 8, ground := Go.Ground.phase }], guard := none }) rfl (fun K hK => ?_) AllReadyH.nil)
              go_simp
              refine hK.out _ _ (hd_set7g HKc.out HGS.out _ _ _ _ _ _ _ ZC.out) (fun hHeld2 => ?_)
              clear hK K hHeld
              have hHeld := hHeld2
              clear hHeld2
              (try simp only [Act.put, List.setIfInBounds_toArray, List.set_cons_zero, List.set_cons_succ])
              refine wpAnyH_done (by kernel_rfl) ?_ _
              go_wp2_with fail
              go_meet
              exact Lib.hid (Cu.box ⟨4, 0, 0, v, 0, 0, 1⟩ EO.out HGS.out HN9.out HLT.out ZC.out)
          · go_simp
            have HGS := Lib.hid (show wd.heap.size ≤ wd.heap.size from ZC.out.size)
            have ZO := ZC
            have EO := Lib.hid (show Bf (wd.drew.alloc (.cells #[.int .i64 0, .int .i64 0, .int .i64 0, .int .u64 0, .int .u64 0, .int .u64 0, .int .i64 0] 28)) wd.heap.size f0 from Bf.new wd.drew f0)
            replace ZC := Lib.hid (ZO.out.alloc ZO.out.size (.cells #[.int .i64 0, .int .i64 0, .int .i64 0, .int .u64 0, .int .u64 0, .int .u64 0, .int .i64 0] 28))
            refine hK.out _ _ (HKc.out _ ZC.out) (fun hHeld2 => ?_)
            clear hK K hHeld
            have hHeld := hHeld2
            clear hHeld2
            (try simp only [Act.put, List.setIfInBounds_toArray, List.set_cons_zero, List.set_cons_succ])
            refine wpAnyH_ready (rs := [2]) (by kernel_rfl) (by simp) ?_
            refine (AllReadyH.cons (o := { dst := some 67, op := Go.Op.call { callee := Go.Callee.value (Go.Operand.func 16), args := #[Go.Operand.const (Go.Value.int Go.IntKind.i64 4), Go.Operand.const (Go.Value.int Go.IntKind.i64 0), Go.Operand.const (Go.Value.int Go.IntKind.u64 0)], argTypes := #[3, 3, 26] }, type := 28, pos := "more.go:71", after := #[], guard := none }) rfl (fun K hK => ?_) AllReadyH.nil)
            go_simp
            refine (begin_any 4 0 0 _).mono ?_
            rintro e wb ⟨rfl, zb⟩
            go_wp2_with fail
            replace ZC := Lib.hid (keep_call zb ZC.out)
            replace EO := Lib.hid (EO.out.after zb)
            clear zb
            refine hK.out _ _ (HKc.out _ ZC.out) (fun hHeld2 => ?_)
            clear hK K hHeld
            have hHeld := hHeld2
            clear hHeld2
            (try simp only [Act.put, List.setIfInBounds_toArray, List.set_cons_zero, List.set_cons_succ])
            refine wpAnyH_ready (rs := [3]) (by kernel_rfl) (by simp) ?_
            refine (AllReadyH.cons (o := { dst := some 68, op := Go.Op.call { callee := Go.Callee.value (Go.Operand.func 18), args := #[Go.Operand.tmp 65, Go.Operand.tmp 66, Go.Operand.tmp 67], argTypes := #[23, 25, 28] }, type := 30, pos := "more.go:71", after := #[{ on := 0, ground := Go.Ground.data }, { on := 1, ground := Go.Ground.data }, { on := 2, ground := Go.Ground.data }, { on := 2, ground := Go.Ground.chain }], guard := none }) rfl (fun K hK => ?_) AllReadyH.nil)
            go_simp
            refine (one_out (LM.out.below ZC.out) HL5.out HS.out HU5.out ⟨U0, U0, U0⟩ rfl E6.out).mono ?_
            rintro e wo ⟨A9, c9, rfl, hn9, zo⟩
            go_wp2_with fail
            have HN9 := Lib.hid hn9
            replace ZC := Lib.hid (keep_call zo ZC.out)
            have HLT := Lib.hid EO.out.lt
            replace EO := Lib.hid (EO.out.after zo)
            obtain ⟨d0, d1, d2, d3, d4, d5, d6⟩ := EO.out.cells
            have fz := EO.out.free
            have ld := EO.out.lt
            clear hn9 zo
            refine hK.out _ _ (HKc.out _ ZC.out) (fun hHeld2 => ?_)
            clear hK K hHeld
            have hHeld := hHeld2
            clear hHeld2
            (try simp only [Act.put, List.setIfInBounds_toArray, List.set_cons_zero, List.set_cons_succ])
            refine wpAnyH_take (i := 4) (oi := { dst := some 64, op := Go.Op.move (Go.Operand.tmp 68), type := 30, pos := "more.go:71", after := #[{ on := 3, ground := Go.Ground.data }], guard := none }) (v := ?vqc11) rfl (by kernel_rfl) (by kernel_rfl) (by kernel_rfl) (fun _ _ _ h => h) (Or.inl ⟨by rfl, ?yqc11⟩) (by assumption) ?rqc11
            case yqc11 => (intro w hSw; (try dsimp only at hSw); go_simp; (try with_reducible rfl))
            (try simp only [Act.put, List.setIfInBounds_toArray, List.set_cons_zero, List.set_cons_succ])
            refine wpAnyH_take (i := 5) (oi := { dst := some 69, op := Go.Op.extract (Go.Operand.tmp 64) 0, type := 25, pos := "more.go:71", after := #[{ on := 4, ground := Go.Ground.data }], guard := none }) (v := ?vqc12) rfl (by kernel_rfl) (by kernel_rfl) (by kernel_rfl) (fun _ _ _ h => h) (Or.inl ⟨by rfl, ?yqc12⟩) (by assumption) ?rqc12
            case yqc12 => (intro w hSw; (try dsimp only at hSw); go_simp; (try with_reducible rfl))
            (try simp only [Act.put, List.setIfInBounds_toArray, List.set_cons_zero, List.set_cons_succ])
            refine wpAnyH_take (i := 6) (oi := { dst := some 70, op := Go.Op.extract (Go.Operand.tmp 64) 1, type := 28, pos := "more.go:71", after := #[{ on := 4, ground := Go.Ground.data }, { on := 8, ground := Go.Ground.gcOnly Go.Departure.lateStores }], guard := none }) (v := ?vqc13) rfl (by kernel_rfl) (by kernel_rfl) (by kernel_rfl) (fun _ _ _ h => h) (Or.inl ⟨by rfl, ?yqc13⟩) (by assumption) ?rqc13
            case yqc13 => (intro w hSw; (try dsimp only at hSw); go_simp; (try with_reducible rfl))
            (try simp only [Act.put, List.setIfInBounds_toArray, List.set_cons_zero, List.set_cons_succ])
            refine wpAnyH_take (i := 8) (oi := { dst := some 11, op := Go.Op.assign (Go.Operand.tmp 69), type := 25, pos := "more.go:71", after := #[{ on := 5, ground := Go.Ground.data }, { on := 3, ground := Go.Ground.chain }, { on := 0, ground := Go.Ground.phase }, { on := 1, ground := Go.Ground.phase }, { on := 2, ground := Go.Ground.phase }, { on := 3, ground := Go.Ground.phase }, { on := 4, ground := Go.Ground.phase }, { on := 5, ground := Go.Ground.phase }, { on := 6, ground := Go.Ground.textOnly Go.Departure.lateStores }, { on := 7, ground := Go.Ground.phase }], guard := none }) (v := ?vqc14) rfl (by kernel_rfl) (by kernel_rfl) (by kernel_rfl) (fun _ _ _ h => h) (Or.inl ⟨by rfl, ?yqc14⟩) (by assumption) ?rqc14
            case yqc14 => (intro w hSw; (try dsimp only at hSw); go_simp; (try with_reducible rfl))
            (try simp only [Act.put, List.setIfInBounds_toArray, List.set_cons_zero, List.set_cons_succ])
            refine wpAnyH_ready (rs := [9]) (by kernel_rfl) (by simp) ?_
            refine (AllReadyH.cons (o := { dst := none, op := Go.Op.store 28 (Go.Operand.tmp 12) (Go.Operand.tmp 70), type := 0, pos := "more.go:71", after := #[{ on := 7, ground := Go.Ground.data }, { on := 6, ground := Go.Ground.data }, { on := 8, ground := Go.Ground.chain }, { on := 0, ground := Go.Ground.phase }, { on := 1, ground := Go.Ground.phase }, { on := 2, ground := Go.Ground.phase }, { on := 3, ground := Go.Ground.phase }, { on := 4, ground := Go.Ground.phase }, { on := 5, ground := Go.Ground.phase }, { on := 6, ground := Go.Ground.phase }, { on := 7, ground := Go.Ground.phase }, { on := 8, ground := Go.Ground.phase }], guard := none }) rfl (fun K hK => ?_) AllReadyH.nil)
            go_simp
            refine hK.out _ _ (hd_set7g HKc.out HGS.out _ _ _ _ _ _ _ ZC.out) (fun hHeld2 => ?_)
            clear hK K hHeld
            have hHeld := hHeld2
            clear hHeld2
            (try simp only [Act.put, List.setIfInBounds_toArray, List.set_cons_zero, List.set_cons_succ])
            refine wpAnyH_done (by kernel_rfl) ?_ _
            go_wp2_with fail
            go_meet
            exact Lib.hid (Cu.box ⟨4, 0, 0, v, 0, 0, 1⟩ EO.out HGS.out HN9.out HLT.out ZC.out)
        case rest =>
          obtain ⟨g2, A2, c2, rfl, rfl, hB, hR, hz⟩ := hcut.out
          replace BX := Lib.hid (BX.out.below hz)
          replace BF := Lib.hid (BF.out.after hz)
          replace LM := Lib.hid (LM.out.below hz)
          replace Z := Lib.hid (Z.out.trans (hz.mono Z.out.size))
          have BG := Lib.hid hB
          have LN := Lib.hid hR
          clear hB hR hz hcut
          obtain ⟨a0, a1, a2, a3, a4, a5, a6⟩ := BF.out.cells
          have la := BF.out.lt
          simp only at a0 a1 a2 a3 a4 a5 a6
          obtain ⟨b0, b1, b2, b3, b4, b5, b6⟩ := BG.out.cells
          have lb := BG.out.lt
          simp only at b0 b1 b2 b3 b4 b5 b6
          go_wp2
          go_ret
          exact ⟨rfl, Z.out⟩
theorem early_walk (W D J S v : Int) (w : World) (hv : U v) : Tells 8 #[cf W D J S, .int .u64 v] w (.bool true) := by
  cases hm : may W D J S
  · exact early_no W D J S v w hm
  · exact early_main W D J S v w hm hv
end Go.Proofs.Ytelelhjgejnpcaa
