/- awake of poacherlaw14: the chapter's example. -/
import Derived.Test.YtpnmgpmmaiinmaaCuL
namespace Go.Proofs.Ytpnmgpmmaiinmaa
open Go.RowKit Go.Deep
def ew3 : List Int := [0, 0, 1, 0, 0, 0, 0, 0, 0, 0, 0, 0]
def ew4 : List Int := [0, 0, 1, 0, 0, 0, 0, 0, 0, 0, 1, 0]
theorem ewt3 : itN (waitS 1 1 1 0) 3 (ex0, fbg 5 0 0) = (ew3, ⟨5, 3, 0, 0, 0, 0, 0⟩) :=
  Prod.ext (by decide +kernel) (fr_ext (by decide +kernel) (by decide +kernel) (by decide +kernel) (by decide +kernel) (by decide +kernel) (by decide +kernel) (by decide +kernel))
theorem ewt4 : put ew3 (ow 1 1 1 0 0 2) 1 = ew4 := by decide +kernel
theorem ewt5 : waitS 1 1 1 0 ew4 ⟨5, 3, 0, 0, 0, 0, 0⟩ = (ew4, ⟨5, 4, 0, 0, 0, 1, 0⟩) :=
  Prod.ext (by decide +kernel) (fr_ext (by decide +kernel) (by decide +kernel) (by decide +kernel) (by decide +kernel) (by decide +kernel) (by decide +kernel) (by decide +kernel))
theorem ewt6 : waitS 1 1 1 0 ew4 ⟨5, 4, 0, 0, 0, 1, 0⟩ = (ew3, ⟨5, 0, 0, 0, 0, 0, 1⟩) :=
  Prod.ext (by decide +kernel) (fr_ext (by decide +kernel) (by decide +kernel) (by decide +kernel) (by decide +kernel) (by decide +kernel) (by decide +kernel) (by decide +kernel))
theorem ewp : prk ⟨5, 3, 0, 0, 0, 0, 0⟩ = true := by decide +kernel
theorem ewm : may 1 1 1 0 = true := by decide +kernel
theorem eww : wts 1 1 1 0 ew3 0 = true := by
  have h1 : okw 1 1 1 0 ew3 0 = true := okw_iff.2 ⟨ewm, by decide +kernel, by decide, by decide⟩
  unfold wts
  rw [h1]; decide +kernel
theorem ewl : at0 ew3 (ow 1 1 1 0 0 2) = 0 := by decide +kernel
theorem ew_len (k : Nat) : (itN (waitS 1 1 1 0) k (ex0, fbg 5 0 0)).1.length = 12 := waitN_len _ _ _ _ _ _
theorem ew_U (k : Nat) : UM (itN (waitS 1 1 1 0) k (ex0, fbg 5 0 0)).1 ∧ UF (itN (waitS 1 1 1 0) k (ex0, fbg 5 0 0)).2 := waitN_U (s := (ex0, fbg 5 0 0)) (fun u hu => by rw [List.eq_of_mem_replicate hu]; exact U0) ⟨U0, U0, U0⟩ k
theorem U1 : U 1 := by unfold U; omega
theorem ew_U3 : UM ew3 := by have h := (ew_U 3).1; rw [ewt3] at h; exact h
theorem awake_any (w : World) : Tells 9 #[] w (.bool true) := by
  go_enter Try.func9, Try.ntmps9
  go_wp2_with fail
  refine (new_at 1 1 1 0 12 _ (by rfl) (by omega)).mono ?_
  rintro _ w1 ⟨A1, c1, rfl, hr, z⟩
  have BX := Lib.hid ((Bx.mk w 1 1 1 0 23).below z)
  have Z := Lib.hid ((box_below w _).trans (z.mono (by simp)))
  have LM := Lib.hid hr
  clear z hr
  go_wp2_with fail
  refine (begin_any 5 0 0 _).mono ?_
  rintro _ w2 ⟨rfl, z⟩
  replace BX := Lib.hid (BX.out.below z)
  replace Z := Lib.hid (Z.out.trans (z.mono Z.out.size))
  replace LM := Lib.hid (LM.out.below z)
  clear z
  obtain ⟨ws, hws⟩ : ∃ ws, ws = w2.alloc (.cells #[.int .i64 5, .int .i64 0, .int .i64 0, .int .u64 0, .int .u64 0, .int .u64 0, .int .i64 0] 28) := ⟨_, rfl⟩
  have BF := Lib.hid (show Bf ws w2.heap.size (fbg 5 0 0) by rw [hws]; exact Bf.new w2 (fbg 5 0 0))
  have hz := box_below w2 (.cells #[.int .i64 5, .int .i64 0, .int .i64 0, .int .u64 0, .int .u64 0, .int .u64 0, .int .i64 0] 28)
  rw [← hws] at hz
  have BX2 := Lib.hid (BX.out.below hz)
  have LM2 := Lib.hid (LM.out.below hz)
  have HG := Lib.hid BX.out.1
  have HW := Lib.hid hws
  clear hz hws
  have HBB := Lib.hid BF.out.lt
  clear BX LM
  go_wp2
  go_loopw [4, 2] (fun i s wr => ∃ (j : Nat) (A : Option Addr) (c : Nat), i = .int .i64 j ∧ s = .slice A 12 c ∧ j ≤ 3 ∧ Hid (Rd wr A (itN (waitS 1 1 1 0) j (ex0, fbg 5 0 0)).1) ∧ Hid (Bf wr w2.heap.size (itN (waitS 1 1 1 0) j (ex0, fbg 5 0 0)).2) ∧ Hid (Kb w2.heap.size ws wr)) (fun i _ _ => 3 - (intOf i).toNat)
  case atStart =>
    obtain rfl := HW.out
    exact ⟨0, A1, c1, rfl, rfl, by omega, LM2, BF, Lib.hid (Kb.refl _ _)⟩
  case round =>
    clear BF
    obtain ⟨j, A, c, rfl, rfl, hj, LA, BF, KB⟩ := hrel
    by_cases hlt : j < 3
    · have HU := Lib.hid (ew_U j).2
      have HL := Lib.hid (ew_len j)
      have HE := Lib.hid (itN_succ (waitS 1 1 1 0) j (ex0, fbg 5 0 0))
      generalize (itN (waitS 1 1 1 0) j (ex0, fbg 5 0 0)).1 = M at *
      generalize (itN (waitS 1 1 1 0) j (ex0, fbg 5 0 0)).2 = F at *
      obtain ⟨M', F', HP⟩ : ∃ M' F', Hid (waitS 1 1 1 0 M F = (M', F')) := ⟨_, _, Lib.hid rfl⟩
      obtain ⟨_, b0, b1, b2, b3⟩ := BX2.out.kb KB.out (Nat.ne_of_lt HG.out)
      obtain ⟨d0, d1, d2, d3, d4, d5, d6⟩ := BF.out.cells
      go_wp2_with fail
      refine (wait_n LA.out HL.out (by omega) HU.out HP.out).mono ?_
      rintro _ w3 ⟨A', c', rfl, hn, z⟩
      have BF3 := BF.out.after z
      clear b0 b1 b2 b3 d0 d1 d2 d3 d4 d5 d6
      obtain ⟨d0, d1, d2, d3, d4, d5, d6⟩ := BF3.cells
      have fz := BF3.free
      have HN := Lib.hid (hn.pf BF.out.lt F')
      have HB3 := Lib.hid (BF3.pf F')
      have HK3 := Lib.hid ((KB.out.call HBB.out z).pf F')
      clear hn BF3
      go_wp2_with fail
      go_roundw
      case rel => exact ⟨j + 1, A', c', by go_num, rfl, by omega, by rw [HE.out, HP.out]; exact Lib.hid HN.out.rd, by rw [HE.out, HP.out]; exact HB3, HK3⟩
      case measure => simp [intOf]; omega
    · obtain rfl : j = 3 := by omega
      rw [ewt3] at LA BF
      simp only at LA BF
      have BX3 := Lib.hid (BX2.out.kb KB.out (Nat.ne_of_lt HG.out))
      have Z3 := Lib.hid (Z.out.trans (KB.out.low.mono Z.out.size |> fun h => by rw [HW.out] at h; exact (box_below w2 _).mono (Z.out.size) |>.trans h))
      clear KB HBB HW BX2 LM2 Z HG
      have BX := BX3
      have Z := Z3
      clear BX3 Z3
      go_upto_region 8 with fail
      have HGX := Lib.hid BX.out.1
      have HGF := Lib.hid BF.out.lt
      go_cut [5, 6] from 22 to 31 (fun x t wz => Hid (Cu wr 12 ew4 ⟨5, 4, 0, 0, 0, 1, 0⟩ x t wz))
      case first =>
        have HKc := Lib.hid (show ∀ x', Below wr.heap.size wr x' → (fun w' => w'.cell? ⟨w.heap.size, 0, none⟩ = some (.int .i64 1) ∧ w'.cell? ⟨w.heap.size, 1, none⟩ = some (.int .i64 1) ∧ w'.cell? ⟨w.heap.size, 2, none⟩ = some (.int .i64 1) ∧ w'.cell? ⟨w.heap.size, 3, none⟩ = some (.int .i64 0) ∧ w'.cell? ⟨w2.heap.size, 0, none⟩ = some (.int .i64 5) ∧ w'.cell? ⟨w2.heap.size, 1, none⟩ = some (.int .i64 3) ∧ w'.cell? ⟨w2.heap.size, 2, none⟩ = some (.int .i64 0) ∧ w'.cell? ⟨w2.heap.size, 3, none⟩ = some (.int .u64 0) ∧ w'.cell? ⟨w2.heap.size, 4, none⟩ = some (.int .u64 0) ∧ w'.cell? ⟨w2.heap.size, 5, none⟩ = some (.int .u64 0) ∧ w'.cell? ⟨w2.heap.size, 6, none⟩ = some (.int .i64 0) ∧ Below wr.heap.size wr w') x' from fun x' hx => by
          obtain ⟨_, e0, e1, e2, e3⟩ := BX.out.below hx
          obtain ⟨f0, f1, f2, f3, f4, f5, f6⟩ := (BF.out.after hx).cells
          exact ⟨e0, e1, e2, e3, f0, f1, f2, f3, f4, f5, f6, hx⟩)
        have hHeld0 := HKc.out _ (Below.refl _ _)
        have ZC := Lib.hid (Below.refl wr.heap.size wr).drew
        refine wp_region_held_drew (S := fun w' => w'.cell? ⟨w.heap.size, 0, none⟩ = some (.int .i64 1) ∧ w'.cell? ⟨w.heap.size, 1, none⟩ = some (.int .i64 1) ∧ w'.cell? ⟨w.heap.size, 2, none⟩ = some (.int .i64 1) ∧ w'.cell? ⟨w.heap.size, 3, none⟩ = some (.int .i64 0) ∧ w'.cell? ⟨w2.heap.size, 0, none⟩ = some (.int .i64 5) ∧ w'.cell? ⟨w2.heap.size, 1, none⟩ = some (.int .i64 3) ∧ w'.cell? ⟨w2.heap.size, 2, none⟩ = some (.int .i64 0) ∧ w'.cell? ⟨w2.heap.size, 3, none⟩ = some (.int .u64 0) ∧ w'.cell? ⟨w2.heap.size, 4, none⟩ = some (.int .u64 0) ∧ w'.cell? ⟨w2.heap.size, 5, none⟩ = some (.int .u64 0) ∧ w'.cell? ⟨w2.heap.size, 6, none⟩ = some (.int .i64 0) ∧ Below wr.heap.size wr w') (by kernel_rfl) (hd_drew HKc.out (fun _ h => h.2.2.2.2.2.2.2.2.2.2.2) hHeld0) (fun hHeld => ?_)
        refine wpAnyH_take (i := 0) (oi := { dst := some 23, op := Go.Op.load 23 (Go.Operand.tmp 1), type := 23, pos := "law.go:24", after := #[], guard := none }) (v := ?vqb1) rfl (by kernel_rfl) (by kernel_rfl) (by kernel_rfl) (fun _ _ _ h => h) (Or.inl ⟨by rfl, ?yqb1⟩) (by assumption) ?rqb1
        case yqb1 => (intro w hSw; (try dsimp only at hSw); go_simp; (try with_reducible rfl))
        (try simp only [Act.put, List.setIfInBounds_toArray, List.set_cons_zero, List.set_cons_succ])
        refine wpAnyH_take (i := 1) (oi := { dst := some 24, op := Go.Op.move (Go.Operand.tmp 2), type := 25, pos := "law.go:24", after := #[], guard := none }) (v := ?vqb2) rfl (by kernel_rfl) (by kernel_rfl) (by kernel_rfl) (fun _ _ _ h => h) (Or.inl ⟨by rfl, ?yqb2⟩) (by assumption) ?rqb2
        case yqb2 => (intro w hSw; (try dsimp only at hSw); go_simp; (try with_reducible rfl))
        (try simp only [Act.put, List.setIfInBounds_toArray, List.set_cons_zero, List.set_cons_succ])
        refine wpAnyH_take (i := 2) (oi := { dst := some 25, op := Go.Op.load 23 (Go.Operand.tmp 1), type := 23, pos := "law.go:24", after := #[], guard := none }) (v := ?vqb3) rfl (by kernel_rfl) (by kernel_rfl) (by kernel_rfl) (fun _ _ _ h => h) (Or.inl ⟨by rfl, ?yqb3⟩) (by assumption) ?rqb3
        case yqb3 => (intro w hSw; (try dsimp only at hSw); go_simp; (try with_reducible rfl))
        (try simp only [Act.put, List.setIfInBounds_toArray, List.set_cons_zero, List.set_cons_succ])
        refine wpAnyH_take (i := 5) (oi := { dst := some 28, op := Go.Op.load 28 (Go.Operand.tmp 3), type := 28, pos := "law.go:24", after := #[], guard := none }) (v := ?vqb4) rfl (by kernel_rfl) (by kernel_rfl) (by kernel_rfl) (fun _ _ _ h => h) (Or.inl ⟨by rfl, ?yqb4⟩) (by assumption) ?rqb4
        case yqb4 => (intro w hSw; (try dsimp only at hSw); go_simp; (try with_reducible rfl))
        (try simp only [Act.put, List.setIfInBounds_toArray, List.set_cons_zero, List.set_cons_succ])
        refine wpAnyH_ready (rs := [3, 10]) (by kernel_rfl) (by simp) ?_
        refine (AllReadyH.cons (o := { dst := some 26, op := Go.Op.call { callee := Go.Callee.value (Go.Operand.func 20), args := #[Go.Operand.tmp 25, Go.Operand.const (Go.Value.int Go.IntKind.i64 0)], argTypes := #[23, 3] }, type := 3, pos := "law.go:24", after := #[{ on := 2, ground := Go.Ground.data }], guard := none }) rfl (fun K hK => ?_) (AllReadyH.cons (o := { dst := some 6, op := Go.Op.alloc 28, type := 0, pos := "law.go:24", after := #[], guard := none }) rfl (fun K hK => ?_) AllReadyH.nil))
        · go_simp
          refine (park_any 1 1 1 0 0 _).mono ?_
          rintro e wa ⟨rfl, zb⟩
          go_wp2_with fail
          replace ZC := Lib.hid (keep_call zb ZC.out)
          clear zb
          refine hK.out _ _ (HKc.out _ ZC.out) (fun hHeld2 => ?_)
          clear hK K hHeld
          have hHeld := hHeld2
          clear hHeld2
          (try simp only [Act.put, List.setIfInBounds_toArray, List.set_cons_zero, List.set_cons_succ])
          refine wpAnyH_ready (rs := [4, 10]) (by kernel_rfl) (by simp) ?_
          refine (AllReadyH.cons (o := { dst := some 27, op := Go.Op.call { callee := Go.Callee.value (Go.Operand.func 19), args := #[Go.Operand.tmp 24, Go.Operand.tmp 26, Go.Operand.const (Go.Value.int Go.IntKind.u64 1)], argTypes := #[25, 3, 26] }, type := 25, pos := "law.go:24", after := #[{ on := 1, ground := Go.Ground.data }, { on := 3, ground := Go.Ground.data }, { on := 3, ground := Go.Ground.chain }], guard := none }) rfl (fun K hK => ?_) (AllReadyH.cons (o := { dst := some 6, op := Go.Op.alloc 28, type := 0, pos := "law.go:24", after := #[], guard := none }) rfl (fun K hK => ?_) AllReadyH.nil))
          · go_simp
            refine (store_new A 12 c ew3 _ 1 _ (LA.out.below ZC.out) rfl (by omega)).mono ?_
            rintro e wb ⟨k, rfl, hk0, hk, zb⟩
            go_wp2_with fail
            have LB := Lib.hid (show Rd wb (some ⟨k, 0, none⟩) ew4 by rw [← ewt4]; exact hk.rd)
            clear hk hk0
            replace ZC := Lib.hid (keep_call zb ZC.out)
            clear zb
            refine hK.out _ _ (HKc.out _ ZC.out) (fun hHeld2 => ?_)
            clear hK K hHeld
            have hHeld := hHeld2
            clear hHeld2
            (try simp only [Act.put, List.setIfInBounds_toArray, List.set_cons_zero, List.set_cons_succ])
            refine wpAnyH_ready (rs := [6, 10]) (by kernel_rfl) (by simp) ?_
            refine (AllReadyH.cons (o := { dst := some 29, op := Go.Op.call { callee := Go.Callee.value (Go.Operand.func 10), args := #[Go.Operand.tmp 23, Go.Operand.tmp 27, Go.Operand.tmp 28], argTypes := #[23, 25, 28] }, type := 30, pos := "law.go:24", after := #[{ on := 0, ground := Go.Ground.data }, { on := 4, ground := Go.Ground.data }, { on := 5, ground := Go.Ground.data }, { on := 4, ground := Go.Ground.chain }], guard := none }) rfl (fun K hK => ?_) (AllReadyH.cons (o := { dst := some 6, op := Go.Op.alloc 28, type := 0, pos := "law.go:24", after := #[], guard := none }) rfl (fun K hK => ?_) AllReadyH.nil))
            · go_simp
              refine (wait_n LB.out (n := 12) rfl (by omega) ⟨U0, U0, U0⟩ ewt5).mono ?_
              rintro e wo ⟨A9, c9, rfl, hn9, zb⟩
              go_wp2_with fail
              have HN9 := Lib.hid hn9
              clear hn9
              replace ZC := Lib.hid (keep_call zb ZC.out)
              clear zb
              refine hK.out _ _ (HKc.out _ ZC.out) (fun hHeld2 => ?_)
              clear hK K hHeld
              have hHeld := hHeld2
              clear hHeld2
              (try simp only [Act.put, List.setIfInBounds_toArray, List.set_cons_zero, List.set_cons_succ])
              refine wpAnyH_take (i := 7) (oi := { dst := some 22, op := Go.Op.move (Go.Operand.tmp 29), type := 30, pos := "law.go:24", after := #[{ on := 6, ground := Go.Ground.data }], guard := none }) (v := ?vqb5) rfl (by kernel_rfl) (by kernel_rfl) (by kernel_rfl) (fun _ _ _ h => h) (Or.inl ⟨by rfl, ?yqb5⟩) (by assumption) ?rqb5
              case yqb5 => (intro w hSw; (try dsimp only at hSw); go_simp; (try with_reducible rfl))
              (try simp only [Act.put, List.setIfInBounds_toArray, List.set_cons_zero, List.set_cons_succ])
              refine wpAnyH_take (i := 8) (oi := { dst := some 30, op := Go.Op.extract (Go.Operand.tmp 22) 0, type := 25, pos := "law.go:24", after := #[{ on := 7, ground := Go.Ground.data }], guard := none }) (v := ?vqb6) rfl (by kernel_rfl) (by kernel_rfl) (by kernel_rfl) (fun _ _ _ h => h) (Or.inl ⟨by rfl, ?yqb6⟩) (by assumption) ?rqb6
              case yqb6 => (intro w hSw; (try dsimp only at hSw); go_simp; (try with_reducible rfl))
              (try simp only [Act.put, List.setIfInBounds_toArray, List.set_cons_zero, List.set_cons_succ])
              refine wpAnyH_take (i := 9) (oi := { dst := some 31, op := Go.Op.extract (Go.Operand.tmp 22) 1, type := 28, pos := "law.go:24", after := #[{ on := 7, ground := Go.Ground.data }, { on := 11, ground := Go.Ground.gcOnly Go.Departure.lateStores }], guard := none }) (v := ?vqb7) rfl (by kernel_rfl) (by kernel_rfl) (by kernel_rfl) (fun _ _ _ h => h) (Or.inl ⟨by rfl, ?yqb7⟩) (by assumption) ?rqb7
              case yqb7 => (intro w hSw; (try dsimp only at hSw); go_simp; (try with_reducible rfl))
              (try simp only [Act.put, List.setIfInBounds_toArray, List.set_cons_zero, List.set_cons_succ])
              refine wpAnyH_ready (rs := [10]) (by kernel_rfl) (by simp) ?_
              refine (AllReadyH.cons (o := { dst := some 6, op := Go.Op.alloc 28, type := 0, pos := "law.go:24", after := #[], guard := none }) rfl (fun K hK => ?_) AllReadyH.nil)
              go_simp
              have HGS := Lib.hid (show wr.heap.size ≤ wo.heap.size from ZC.out.size)
              have ZO := ZC
              have EO := Lib.hid (show Bf (wo.alloc (.cells #[.int .i64 0, .int .i64 0, .int .i64 0, .int .u64 0, .int .u64 0, .int .u64 0, .int .i64 0] 28)) wo.heap.size f0 from Bf.new wo f0)
              replace ZC := Lib.hid (ZO.out.alloc ZO.out.size (.cells #[.int .i64 0, .int .i64 0, .int .i64 0, .int .u64 0, .int .u64 0, .int .u64 0, .int .i64 0] 28))
              refine hK.out _ _ (HKc.out _ ZC.out) (fun hHeld2 => ?_)
              clear hK K hHeld
              have hHeld := hHeld2
              clear hHeld2
              (try simp only [Act.put, List.setIfInBounds_toArray, List.set_cons_zero, List.set_cons_succ])
              refine wpAnyH_take (i := 11) (oi := { dst := some 5, op := Go.Op.assign (Go.Operand.tmp 30), type := 25, pos := "law.go:24", after := #[{ on := 8, ground := Go.Ground.data }, { on := 6, ground := Go.Ground.chain }, { on := 0, ground := Go.Ground.phase }, { on := 1, ground := Go.Ground.phase }, { on := 2, ground := Go.Ground.phase }, { on := 3, ground := Go.Ground.phase }, { on := 4, ground := Go.Ground.phase }, { on := 5, ground := Go.Ground.phase }, { on := 6, ground := Go.Ground.phase }, { on := 7, ground := Go.Ground.phase }, { on := 8, ground := Go.Ground.phase }, { on := 9, ground := Go.Ground.textOnly Go.Departure.lateStores }, { on := 10, ground := Go.Ground.phase }], guard := none }) (v := ?vqb8) rfl (by kernel_rfl) (by kernel_rfl) (by kernel_rfl) (fun _ _ _ h => h) (Or.inl ⟨by rfl, ?yqb8⟩) (by assumption) ?rqb8
              case yqb8 => (intro w hSw; (try dsimp only at hSw); go_simp; (try with_reducible rfl))
              (try simp only [Act.put, List.setIfInBounds_toArray, List.set_cons_zero, List.set_cons_succ])
              refine wpAnyH_ready (rs := [12]) (by kernel_rfl) (by simp) ?_
              refine (AllReadyH.cons (o := { dst := none, op := Go.Op.store 28 (Go.Operand.tmp 6) (Go.Operand.tmp 31), type := 0, pos := "law.go:24", after := #[{ on := 10, ground := Go.Ground.data }, { on := 9, ground := Go.Ground.data }, { on := 11, ground := Go.Ground.chain }, { on := 0, ground := Go.Ground.phase }, { on := 1, ground := Go.Ground.phase }, { on := 2, ground := Go.Ground.phase }, { on := 3, ground := Go.Ground.phase }, { on := 4, ground := Go.Ground.phase }, { on := 5, ground := Go.Ground.phase }, { on := 6, ground := Go.Ground.phase }, { on := 7, ground := Go.Ground.phase }, { on := 8, ground := Go.Ground.phase }, { on := 9, ground := Go.Ground.phase }, { on := 10, ground := Go.Ground.phase }, { on := 11, ground := Go.Ground.phase }], guard := none }) rfl (fun K hK => ?_) AllReadyH.nil)
              go_simp
              refine hK.out _ _ (HKc.out _ (ZO.out.alloc ZO.out.size _)) (fun hHeld2 => ?_)
              clear hK K hHeld
              have hHeld := hHeld2
              clear hHeld2
              (try simp only [Act.put, List.setIfInBounds_toArray, List.set_cons_zero, List.set_cons_succ])
              refine wpAnyH_done (by kernel_rfl) ?_ _
              go_wp2_with fail
              go_meet
              exact Lib.hid (Cu.last ⟨5, 4, 0, 0, 0, 1, 0⟩ HN9.out ZO.out)
            · go_simp
              have HGS := Lib.hid (show wr.heap.size ≤ wb.heap.size from ZC.out.size)
              have ZO := ZC
              have EO := Lib.hid (show Bf (wb.alloc (.cells #[.int .i64 0, .int .i64 0, .int .i64 0, .int .u64 0, .int .u64 0, .int .u64 0, .int .i64 0] 28)) wb.heap.size f0 from Bf.new wb f0)
              replace ZC := Lib.hid (ZO.out.alloc ZO.out.size (.cells #[.int .i64 0, .int .i64 0, .int .i64 0, .int .u64 0, .int .u64 0, .int .u64 0, .int .i64 0] 28))
              refine hK.out _ _ (HKc.out _ ZC.out) (fun hHeld2 => ?_)
              clear hK K hHeld
              have hHeld := hHeld2
              clear hHeld2
              (try simp only [Act.put, List.setIfInBounds_toArray, List.set_cons_zero, List.set_cons_succ])
              refine wpAnyH_ready (rs := [6]) (by kernel_rfl) (by simp) ?_
              refine (AllReadyH.cons (o := { dst := some 29, op := Go.Op.call { callee := Go.Callee.value (Go.Operand.func 10), args := #[Go.Operand.tmp 23, Go.Operand.tmp 27, Go.Operand.tmp 28], argTypes := #[23, 25, 28] }, type := 30, pos := "law.go:24", after := #[{ on := 0, ground := Go.Ground.data }, { on := 4, ground := Go.Ground.data }, { on := 5, ground := Go.Ground.data }, { on := 4, ground := Go.Ground.chain }], guard := none }) rfl (fun K hK => ?_) AllReadyH.nil)
              go_simp
              refine (wait_n (LB.out.alloc _) (n := 12) rfl (by omega) ⟨U0, U0, U0⟩ ewt5).mono ?_
              rintro e wo ⟨A9, c9, rfl, hn9, zb⟩
              go_wp2_with fail
              have HN9 := Lib.hid hn9
              clear hn9
              have HLT := Lib.hid EO.out.lt
              replace ZC := Lib.hid (keep_call zb ZC.out)
              replace EO := Lib.hid (EO.out.after zb)
              obtain ⟨d0, d1, d2, d3, d4, d5, d6⟩ := EO.out.cells
              have fz := EO.out.free
              have ld := EO.out.lt
              clear zb
              refine hK.out _ _ (HKc.out _ ZC.out) (fun hHeld2 => ?_)
              clear hK K hHeld
              have hHeld := hHeld2
              clear hHeld2
              (try simp only [Act.put, List.setIfInBounds_toArray, List.set_cons_zero, List.set_cons_succ])
              refine wpAnyH_take (i := 7) (oi := { dst := some 22, op := Go.Op.move (Go.Operand.tmp 29), type := 30, pos := "law.go:24", after := #[{ on := 6, ground := Go.Ground.data }], guard := none }) (v := ?vqb9) rfl (by kernel_rfl) (by kernel_rfl) (by kernel_rfl) (fun _ _ _ h => h) (Or.inl ⟨by rfl, ?yqb9⟩) (by assumption) ?rqb9
              case yqb9 => (intro w hSw; (try dsimp only at hSw); go_simp; (try with_reducible rfl))
              (try simp only [Act.put, List.setIfInBounds_toArray, List.set_cons_zero, List.set_cons_succ])
              refine wpAnyH_take (i := 8) (oi := { dst := some 30, op := Go.Op.extract (Go.Operand.tmp 22) 0, type := 25, pos := "law.go:24", after := #[{ on := 7, ground := Go.Ground.data }], guard := none }) (v := ?vqb10) rfl (by kernel_rfl) (by kernel_rfl) (by kernel_rfl) (fun _ _ _ h => h) (Or.inl ⟨by rfl, ?yqb10⟩) (by assumption) ?rqb10
              case yqb10 => (intro w hSw; (try dsimp only at hSw); go_simp; (try with_reducible rfl))
              (try simp only [Act.put, List.setIfInBounds_toArray, List.set_cons_zero, List.set_cons_succ])
              refine wpAnyH_take (i := 9) (oi := { dst := some 31, op := Go.Op.extract (Go.Operand.tmp 22) 1, type := 28, pos := "law.go:24", after := #[{ on := 7, ground := Go.Ground.data }, { on := 11, ground := Go.Ground.gcOnly Go.Departure.lateStores }], guard := none }) (v := ?vqb11) rfl (by kernel_rfl) (by kernel_rfl) (by kernel_rfl) (fun _ _ _ h => h) (Or.inl ⟨by rfl, ?yqb11⟩) (by assumption) ?rqb11
              case yqb11 => (intro w hSw; (try dsimp only at hSw); go_simp; (try with_reducible rfl))
              (try simp only [Act.put, List.setIfInBounds_toArray, List.set_cons_zero, List.set_cons_succ])
              refine wpAnyH_take (i := 11) (oi := { dst := some 5, op := Go.Op.assign (Go.Operand.tmp 30), type := 25, pos := "law.go:24", after := #[{ on := 8, ground := Go.Ground.data }, { on := 6, ground := Go.Ground.chain }, { on := 0, ground := Go.Ground.phase }, { on := 1, ground := Go.Ground.phase }, { on := 2, ground := Go.Ground.phase }, { on := 3, ground := Go.Ground.phase }, { on := 4, ground := Go.Ground.phase }, { on := 5, ground := Go.Ground.phase }, { on := 6, ground := Go.Ground.phase }, { on := 7, ground := Go.Ground.phase }, { on := 8, ground := Go.Ground.phase }, { on := 9, ground := Go.Ground.textOnly Go.Departure.lateStores }, { on := 10, ground := Go.Ground.phase }], guard := none }) (v := ?vqb12) rfl (by kernel_rfl) (by kernel_rfl) (by kernel_rfl) (fun _ _ _ h => h) (Or.inl ⟨by rfl, ?yqb12⟩) (by assumption) ?rqb12
              case yqb12 => (intro w hSw; (try dsimp only at hSw); go_simp; (try with_reducible rfl))
              (try simp only [Act.put, List.setIfInBounds_toArray, List.set_cons_zero, List.set_cons_succ])
              refine wpAnyH_ready (rs := [12]) (by kernel_rfl) (by simp) ?_
              refine (AllReadyH.cons (o := { dst := none, op := Go.Op.store 28 (Go.Operand.tmp 6) (Go.Operand.tmp 31), type := 0, pos := "law.go:24", after := #[{ on := 10, ground := Go.Ground.data }, { on := 9, ground := Go.Ground.data }, { on := 11, ground := Go.Ground.chain }, { on := 0, ground := Go.Ground.phase }, { on := 1, ground := Go.Ground.phase }, { on := 2, ground := Go.Ground.phase }, { on := 3, ground := Go.Ground.phase }, { on := 4, ground := Go.Ground.phase }, { on := 5, ground := Go.Ground.phase }, { on := 6, ground := Go.Ground.phase }, { on := 7, ground := Go.Ground.phase }, { on := 8, ground := Go.Ground.phase }, { on := 9, ground := Go.Ground.phase }, { on := 10, ground := Go.Ground.phase }, { on := 11, ground := Go.Ground.phase }], guard := none }) rfl (fun K hK => ?_) AllReadyH.nil)
              go_simp
              refine hK.out _ _ (hd_set7g HKc.out HGS.out _ _ _ _ _ _ _ ZC.out) (fun hHeld2 => ?_)
              clear hK K hHeld
              have hHeld := hHeld2
              clear hHeld2
              (try simp only [Act.put, List.setIfInBounds_toArray, List.set_cons_zero, List.set_cons_succ])
              refine wpAnyH_done (by kernel_rfl) ?_ _
              go_wp2_with fail
              go_meet
              exact Lib.hid (Cu.box ⟨5, 4, 0, 0, 0, 1, 0⟩ EO.out HGS.out HN9.out HLT.out ZC.out)
          · go_simp
            have HGS := Lib.hid (show wr.heap.size ≤ wa.heap.size from ZC.out.size)
            have ZO := ZC
            have EO := Lib.hid (show Bf (wa.alloc (.cells #[.int .i64 0, .int .i64 0, .int .i64 0, .int .u64 0, .int .u64 0, .int .u64 0, .int .i64 0] 28)) wa.heap.size f0 from Bf.new wa f0)
            replace ZC := Lib.hid (ZO.out.alloc ZO.out.size (.cells #[.int .i64 0, .int .i64 0, .int .i64 0, .int .u64 0, .int .u64 0, .int .u64 0, .int .i64 0] 28))
            refine hK.out _ _ (HKc.out _ ZC.out) (fun hHeld2 => ?_)
            clear hK K hHeld
            have hHeld := hHeld2
            clear hHeld2
            (try simp only [Act.put, List.setIfInBounds_toArray, List.set_cons_zero, List.set_cons_succ])
            refine wpAnyH_ready (rs := [4]) (by kernel_rfl) (by simp) ?_
            refine (AllReadyH.cons (o := { dst := some 27, op := Go.Op.call { callee := Go.Callee.value (Go.Operand.func 19), args := #[Go.Operand.tmp 24, Go.Operand.tmp 26, Go.Operand.const (Go.Value.int Go.IntKind.u64 1)], argTypes := #[25, 3, 26] }, type := 25, pos := "law.go:24", after := #[{ on := 1, ground := Go.Ground.data }, { on := 3, ground := Go.Ground.data }, { on := 3, ground := Go.Ground.chain }], guard := none }) rfl (fun K hK => ?_) AllReadyH.nil)
            go_simp
            refine (store_new A 12 c ew3 _ 1 _ (LA.out.below ZC.out) rfl (by omega)).mono ?_
            rintro e wb ⟨k, rfl, hk0, hk, zb⟩
            go_wp2_with fail
            have LB := Lib.hid (show Rd wb (some ⟨k, 0, none⟩) ew4 by rw [← ewt4]; exact hk.rd)
            clear hk hk0
            replace ZC := Lib.hid (keep_call zb ZC.out)
            replace EO := Lib.hid (EO.out.after zb)
            clear zb
            refine hK.out _ _ (HKc.out _ ZC.out) (fun hHeld2 => ?_)
            clear hK K hHeld
            have hHeld := hHeld2
            clear hHeld2
            (try simp only [Act.put, List.setIfInBounds_toArray, List.set_cons_zero, List.set_cons_succ])
            refine wpAnyH_ready (rs := [6]) (by kernel_rfl) (by simp) ?_
            refine (AllReadyH.cons (o := { dst := some 29, op := Go.Op.call { callee := Go.Callee.value (Go.Operand.func 10), args := #[Go.Operand.tmp 23, Go.Operand.tmp 27, Go.Operand.tmp 28], argTypes := #[23, 25, 28] }, type := 30, pos := "law.go:24", after := #[{ on := 0, ground := Go.Ground.data }, { on := 4, ground := Go.Ground.data }, { on := 5, ground := Go.Ground.data }, { on := 4, ground := Go.Ground.chain }], guard := none }) rfl (fun K hK => ?_) AllReadyH.nil)
            go_simp
            refine (wait_n LB.out (n := 12) rfl (by omega) ⟨U0, U0, U0⟩ ewt5).mono ?_
            rintro e wo ⟨A9, c9, rfl, hn9, zb⟩
            go_wp2_with fail
            have HN9 := Lib.hid hn9
            clear hn9
            have HLT := Lib.hid EO.out.lt
            replace ZC := Lib.hid (keep_call zb ZC.out)
            replace EO := Lib.hid (EO.out.after zb)
            obtain ⟨d0, d1, d2, d3, d4, d5, d6⟩ := EO.out.cells
            have fz := EO.out.free
            have ld := EO.out.lt
            clear zb
            refine hK.out _ _ (HKc.out _ ZC.out) (fun hHeld2 => ?_)
            clear hK K hHeld
            have hHeld := hHeld2
            clear hHeld2
            (try simp only [Act.put, List.setIfInBounds_toArray, List.set_cons_zero, List.set_cons_succ])
            refine wpAnyH_take (i := 7) (oi := { dst := some 22, op := Go.Op.move (Go.Operand.tmp 29), type := 30, pos := "law.go:24", after := #[{ on := 6, ground := Go.Ground.data }], guard := none }) (v := ?vqb13) rfl (by kernel_rfl) (by kernel_rfl) (by kernel_rfl) (fun _ _ _ h => h) (Or.inl ⟨by rfl, ?yqb13⟩) (by assumption) ?rqb13
            case yqb13 => (intro w hSw; (try dsimp only at hSw); go_simp; (try with_reducible rfl))
            (try simp only [Act.put, List.setIfInBounds_toArray, List.set_cons_zero, List.set_cons_succ])
            refine wpAnyH_take (i := 8) (oi := { dst := some 30, op := Go.Op.extract (Go.Operand.tmp 22) 0, type := 25, pos := "law.go:24", after := #[{ on := 7, ground := Go.Ground.data }], guard := none }) (v := ?vqb14) rfl (by kernel_rfl) (by kernel_rfl) (by kernel_rfl) (fun _ _ _ h => h) (Or.inl ⟨by rfl, ?yqb14⟩) (by assumption) ?rqb14
            case yqb14 => (intro w hSw; (try dsimp only at hSw); go_simp; (try with_reducible rfl))
            (try simp only [Act.put, List.setIfInBounds_toArray, List.set_cons_zero, List.set_cons_succ])
            refine wpAnyH_take (i := 9) (oi := { dst := some 31, op := Go.Op.extract (Go.Operand.tmp 22) 1, type := 28, pos := "law.go:24", after := #[{ on := 7, ground := Go.Ground.data }, { on := 11, ground := Go.Ground.gcOnly Go.Departure.lateStores }], guard := none }) (v := ?vqb15) rfl (by kernel_rfl) (by kernel_rfl) (by kernel_rfl) (fun _ _ _ h => h) (Or.inl ⟨by rfl, ?yqb15⟩) (by assumption) ?rqb15
            case yqb15 => (intro w hSw; (try dsimp only at hSw); go_simp; (try with_reducible rfl))
            (try simp only [Act.put, List.setIfInBounds_toArray, List.set_cons_zero, List.set_cons_succ])
            refine wpAnyH_take (i := 11) (oi := { dst := some 5, op := Go.Op.assign (Go.Operand.tmp 30), type := 25, pos := "law.go:24", after := #[{ on := 8, ground := Go.Ground.data }, { on := 6, ground := Go.Ground.chain }, { on := 0, ground := Go.Ground.phase }, { on := 1, ground := Go.Ground.phase }, { on := 2, ground := Go.Ground.phase }, { on := 3, ground := Go.Ground.phase }, { on := 4, ground := Go.Ground.phase }, { on := 5, ground := Go.Ground.phase }, { on := 6, ground := Go.Ground.phase }, { on := 7, ground := Go.Ground.phase }, { on := 8, ground := Go.Ground.phase }, { on := 9, ground := Go.Ground.textOnly Go.Departure.lateStores }, { on := 10, ground := Go.Ground.phase }], guard := none }) (v := ?vqb16) rfl (by kernel_rfl) (by kernel_rfl) (by kernel_rfl) (fun _ _ _ h => h) (Or.inl ⟨by rfl, ?yqb16⟩) (by assumption) ?rqb16
            case yqb16 => (intro w hSw; (try dsimp only at hSw); go_simp; (try with_reducible rfl))
            (try simp only [Act.put, List.setIfInBounds_toArray, List.set_cons_zero, List.set_cons_succ])
            refine wpAnyH_ready (rs := [12]) (by kernel_rfl) (by simp) ?_
            refine (AllReadyH.cons (o := { dst := none, op := Go.Op.store 28 (Go.Operand.tmp 6) (Go.Operand.tmp 31), type := 0, pos := "law.go:24", after := #[{ on := 10, ground := Go.Ground.data }, { on := 9, ground := Go.Ground.data }, { on := 11, ground := Go.Ground.chain }, { on := 0, ground := Go.Ground.phase }, { on := 1, ground := Go.Ground.phase }, { on := 2, ground := Go.Ground.phase }, { on := 3, ground := Go.Ground.phase }, { on := 4, ground := Go.Ground.phase }, { on := 5, ground := Go.Ground.phase }, { on := 6, ground := Go.Ground.phase }, { on := 7, ground := Go.Ground.phase }, { on := 8, ground := Go.Ground.phase }, { on := 9, ground := Go.Ground.phase }, { on := 10, ground := Go.Ground.phase }, { on := 11, ground := Go.Ground.phase }], guard := none }) rfl (fun K hK => ?_) AllReadyH.nil)
            go_simp
            refine hK.out _ _ (hd_set7g HKc.out HGS.out _ _ _ _ _ _ _ ZC.out) (fun hHeld2 => ?_)
            clear hK K hHeld
            have hHeld := hHeld2
            clear hHeld2
            (try simp only [Act.put, List.setIfInBounds_toArray, List.set_cons_zero, List.set_cons_succ])
            refine wpAnyH_done (by kernel_rfl) ?_ _
            go_wp2_with fail
            go_meet
            exact Lib.hid (Cu.box ⟨5, 4, 0, 0, 0, 1, 0⟩ EO.out HGS.out HN9.out HLT.out ZC.out)
        · go_simp
          have HGS := Lib.hid (show wr.heap.size ≤ wr.heap.size from ZC.out.size)
          have ZO := ZC
          have EO := Lib.hid (show Bf (wr.drew.alloc (.cells #[.int .i64 0, .int .i64 0, .int .i64 0, .int .u64 0, .int .u64 0, .int .u64 0, .int .i64 0] 28)) wr.heap.size f0 from Bf.new wr.drew f0)
          replace ZC := Lib.hid (ZO.out.alloc ZO.out.size (.cells #[.int .i64 0, .int .i64 0, .int .i64 0, .int .u64 0, .int .u64 0, .int .u64 0, .int .i64 0] 28))
          refine hK.out _ _ (HKc.out _ ZC.out) (fun hHeld2 => ?_)
          clear hK K hHeld
          have hHeld := hHeld2
          clear hHeld2
          (try simp only [Act.put, List.setIfInBounds_toArray, List.set_cons_zero, List.set_cons_succ])
          refine wpAnyH_ready (rs := [3]) (by kernel_rfl) (by simp) ?_
          refine (AllReadyH.cons (o := { dst := some 26, op := Go.Op.call { callee := Go.Callee.value (Go.Operand.func 20), args := #[Go.Operand.tmp 25, Go.Operand.const (Go.Value.int Go.IntKind.i64 0)], argTypes := #[23, 3] }, type := 3, pos := "law.go:24", after := #[{ on := 2, ground := Go.Ground.data }], guard := none }) rfl (fun K hK => ?_) AllReadyH.nil)
          go_simp
          refine (park_any 1 1 1 0 0 _).mono ?_
          rintro e wa ⟨rfl, zb⟩
          go_wp2_with fail
          replace ZC := Lib.hid (keep_call zb ZC.out)
          replace EO := Lib.hid (EO.out.after zb)
          clear zb
          refine hK.out _ _ (HKc.out _ ZC.out) (fun hHeld2 => ?_)
          clear hK K hHeld
          have hHeld := hHeld2
          clear hHeld2
          (try simp only [Act.put, List.setIfInBounds_toArray, List.set_cons_zero, List.set_cons_succ])
          refine wpAnyH_ready (rs := [4]) (by kernel_rfl) (by simp) ?_
          refine (AllReadyH.cons (o := { dst := some 27, op := Go.Op.call { callee := Go.Callee.value (Go.Operand.func 19), args := #[Go.Operand.tmp 24, Go.Operand.tmp 26, Go.Operand.const (Go.Value.int Go.IntKind.u64 1)], argTypes := #[25, 3, 26] }, type := 25, pos := "law.go:24", after := #[{ on := 1, ground := Go.Ground.data }, { on := 3, ground := Go.Ground.data }, { on := 3, ground := Go.Ground.chain }], guard := none }) rfl (fun K hK => ?_) AllReadyH.nil)
          go_simp
          refine (store_new A 12 c ew3 _ 1 _ (LA.out.below ZC.out) rfl (by omega)).mono ?_
          rintro e wb ⟨k, rfl, hk0, hk, zb⟩
          go_wp2_with fail
          have LB := Lib.hid (show Rd wb (some ⟨k, 0, none⟩) ew4 by rw [← ewt4]; exact hk.rd)
          clear hk hk0
          replace ZC := Lib.hid (keep_call zb ZC.out)
          replace EO := Lib.hid (EO.out.after zb)
          clear zb
          refine hK.out _ _ (HKc.out _ ZC.out) (fun hHeld2 => ?_)
          clear hK K hHeld
          have hHeld := hHeld2
          clear hHeld2
          (try simp only [Act.put, List.setIfInBounds_toArray, List.set_cons_zero, List.set_cons_succ])
          refine wpAnyH_ready (rs := [6]) (by kernel_rfl) (by simp) ?_
          refine (AllReadyH.cons (o := { dst := some 29, op := Go.Op.call { callee := Go.Callee.value (Go.Operand.func 10), args := #[Go.Operand.tmp 23, Go.Operand.tmp 27, Go.Operand.tmp 28], argTypes := #[23, 25, 28] }, type := 30, pos := "law.go:24", after := #[{ on := 0, ground := Go.Ground.data }, { on := 4, ground := Go.Ground.data }, { on := 5, ground := Go.Ground.data }, { on := 4, ground := Go.Ground.chain }], guard := none }) rfl (fun K hK => ?_) AllReadyH.nil)
          go_simp
          refine (wait_n LB.out (n := 12) rfl (by omega) ⟨U0, U0, U0⟩ ewt5).mono ?_
          rintro e wo ⟨A9, c9, rfl, hn9, zb⟩
          go_wp2_with fail
          have HN9 := Lib.hid hn9
          clear hn9
          have HLT := Lib.hid EO.out.lt
          replace ZC := Lib.hid (keep_call zb ZC.out)
          replace EO := Lib.hid (EO.out.after zb)
          obtain ⟨d0, d1, d2, d3, d4, d5, d6⟩ := EO.out.cells
          have fz := EO.out.free
          have ld := EO.out.lt
          clear zb
          refine hK.out _ _ (HKc.out _ ZC.out) (fun hHeld2 => ?_)
          clear hK K hHeld
          have hHeld := hHeld2
          clear hHeld2
          (try simp only [Act.put, List.setIfInBounds_toArray, List.set_cons_zero, List.set_cons_succ])
          refine wpAnyH_take (i := 7) (oi := { dst := some 22, op := Go.Op.move (Go.Operand.tmp 29), type := 30, pos := "law.go:24", after := #[{ on := 6, ground := Go.Ground.data }], guard := none }) (v := ?vqb17) rfl (by kernel_rfl) (by kernel_rfl) (by kernel_rfl) (fun _ _ _ h => h) (Or.inl ⟨by rfl, ?yqb17⟩) (by assumption) ?rqb17
          case yqb17 => (intro w hSw; (try dsimp only at hSw); go_simp; (try with_reducible rfl))
          (try simp only [Act.put, List.setIfInBounds_toArray, List.set_cons_zero, List.set_cons_succ])
          refine wpAnyH_take (i := 8) (oi := { dst := some 30, op := Go.Op.extract (Go.Operand.tmp 22) 0, type := 25, pos := "law.go:24", after := #[{ on := 7, ground := Go.Ground.data }], guard := none }) (v := ?vqb18) rfl (by kernel_rfl) (by kernel_rfl) (by kernel_rfl) (fun _ _ _ h => h) (Or.inl ⟨by rfl, ?yqb18⟩) (by assumption) ?rqb18
          case yqb18 => (intro w hSw; (try dsimp only at hSw); go_simp; (try with_reducible rfl))
          (try simp only [Act.put, List.setIfInBounds_toArray, List.set_cons_zero, List.set_cons_succ])
          refine wpAnyH_take (i := 9) (oi := { dst := some 31, op := Go.Op.extract (Go.Operand.tmp 22) 1, type := 28, pos := "law.go:24", after := #[{ on := 7, ground := Go.Ground.data }, { on := 11, ground := Go.Ground.gcOnly Go.Departure.lateStores }], guard := none }) (v := ?vqb19) rfl (by kernel_rfl) (by kernel_rfl) (by kernel_rfl) (fun _ _ _ h => h) (Or.inl ⟨by rfl, ?yqb19⟩) (by assumption) ?rqb19
          case yqb19 => (intro w hSw; (try dsimp only at hSw); go_simp; (try with_reducible rfl))
          (try simp only [Act.put, List.setIfInBounds_toArray, List.set_cons_zero, List.set_cons_succ])
          refine wpAnyH_take (i := 11) (oi := { dst := some 5, op := Go.Op.assign (Go.Operand.tmp 30), type := 25, pos := "law.go:24", after := #[{ on := 8, ground := Go.Ground.data }, { on := 6, ground := Go.Ground.chain }, { on := 0, ground := Go.Ground.phase }, { on := 1, ground := Go.Ground.phase }, { on := 2, ground := Go.Ground.phase }, { on := 3, ground := Go.Ground.phase }, { on := 4, ground := Go.Ground.phase }, { on := 5, ground := Go.Ground.phase }, { on := 6, ground := Go.Ground.phase }, { on := 7, ground := Go.Ground.phase }, { on := 8, ground := Go.Ground.phase }, { on := 9, ground := Go.Ground.textOnly Go.Departure.lateStores }, { on := 10, ground := Go.Ground.phase }], guard := none }) (v := ?vqb20) rfl (by kernel_rfl) (by kernel_rfl) (by kernel_rfl) (fun _ _ _ h => h) (Or.inl ⟨by rfl, ?yqb20⟩) (by assumption) ?rqb20
          case yqb20 => (intro w hSw; (try dsimp only at hSw); go_simp; (try with_reducible rfl))
          (try simp only [Act.put, List.setIfInBounds_toArray, List.set_cons_zero, List.set_cons_succ])
          refine wpAnyH_ready (rs := [12]) (by kernel_rfl) (by simp) ?_
          refine (AllReadyH.cons (o := { dst := none, op := Go.Op.store 28 (Go.Operand.tmp 6) (Go.Operand.tmp 31), type := 0, pos := "law.go:24", after := #[{ on := 10, ground := Go.Ground.data }, { on := 9, ground := Go.Ground.data }, { on := 11, ground := Go.Ground.chain }, { on := 0, ground := Go.Ground.phase }, { on := 1, ground := Go.Ground.phase }, { on := 2, ground := Go.Ground.phase }, { on := 3, ground := Go.Ground.phase }, { on := 4, ground := Go.Ground.phase }, { on := 5, ground := Go.Ground.phase }, { on := 6, ground := Go.Ground.phase }, { on := 7, ground := Go.Ground.phase }, { on := 8, ground := Go.Ground.phase }, { on := 9, ground := Go.Ground.phase }, { on := 10, ground := Go.Ground.phase }, { on := 11, ground := Go.Ground.phase }], guard := none }) rfl (fun K hK => ?_) AllReadyH.nil)
          go_simp
          refine hK.out _ _ (hd_set7g HKc.out HGS.out _ _ _ _ _ _ _ ZC.out) (fun hHeld2 => ?_)
          clear hK K hHeld
          have hHeld := hHeld2
          clear hHeld2
          (try simp only [Act.put, List.setIfInBounds_toArray, List.set_cons_zero, List.set_cons_succ])
          refine wpAnyH_done (by kernel_rfl) ?_ _
          go_wp2_with fail
          go_meet
          exact Lib.hid (Cu.box ⟨5, 4, 0, 0, 0, 1, 0⟩ EO.out HGS.out HN9.out HLT.out ZC.out)
      case rest =>
        obtain ⟨g1, Ag, cg, rfl, rfl, hE, hB, hR, hz⟩ := hcut.out
        replace BX := Lib.hid (BX.out.below hz)
        replace BF := Lib.hid (BF.out.after hz)
        replace LA := Lib.hid ((LA.out.rx hE).after hz)
        replace Z := Lib.hid (Z.out.trans (hz.mono Z.out.size))
        have BG := Lib.hid hB
        have LB := Lib.hid hR
        have Hg1 := Lib.hid hE
        clear hE hB hR hz hcut
        have HNX := Lib.hid (Nat.ne_of_lt (Nat.lt_of_lt_of_le HGX.out Hg1.out))
        have HNF := Lib.hid (Nat.ne_of_lt (Nat.lt_of_lt_of_le HGF.out Hg1.out))
        have HZG := Lib.hid (Nat.le_of_lt (Nat.lt_of_lt_of_le HGX.out Hg1.out))
        have HLT := Lib.hid BG.out.lt
        obtain ⟨gx, x_0, x_1, x_2, x_3⟩ := BX.out
        obtain ⟨d0, d1, d2, d3, d4, d5, d6⟩ := BG.out.cells
        have ld := BG.out.lt
        go_wp2_with fail
        refine (wait_n LB.out.rd (n := 12) rfl (by omega) ⟨U0, U0, U1⟩ ewt6).mono ?_
        rintro _ w4 ⟨A4, c4, rfl, hn4, z⟩
        clear gx x_0 x_1 x_2 x_3 d0 d1 d2 d3 d4 d5 d6 ld
        replace Z := Lib.hid (Z.out.trans (z.mono Z.out.size))
        replace BX := Lib.hid (BX.out.below z)
        replace BF := Lib.hid (BF.out.after z)
        replace LA := Lib.hid (LA.out.after z)
        replace BG := Lib.hid (BG.out.after z)
        replace LB := Lib.hid (LB.out.after z)
        have LC := Lib.hid (hn4.rx (lo := 0) (g := g1) (Nat.zero_le _) (.inl HLT.out))
        clear hn4 z
        obtain ⟨d0, d1, d2, d3, d4, d5, d6⟩ := BG.out.cells
        have ld := BG.out.lt
        have fz := BG.out.free
        go_upto_region 10 with fail
        change Code.wp _ _ _ _ (pf w4 g1 ⟨5, 0, 0, 0, 0, 0, 1⟩)
        have KB := Lib.hid ((Kb.refl g1 w4).pf ⟨5, 0, 0, 0, 0, 0, 1⟩)
        replace BG := Lib.hid (BG.out.pf ⟨5, 0, 0, 0, 0, 0, 1⟩)
        replace Z := Lib.hid (Z.out.trans (KB.out.low.mono HZG.out))
        replace BX := Lib.hid (BX.out.kb KB.out HNX.out)
        replace BF := Lib.hid (BF.out.kb KB.out HNF.out)
        replace LA := Lib.hid (LA.out.kb KB.out)
        replace LB := Lib.hid (LB.out.kb KB.out)
        replace LC := Lib.hid (LC.out.kb KB.out)
        clear d0 d1 d2 d3 d4 d5 d6 ld
        generalize pf w4 g1 ⟨5, 0, 0, 0, 0, 0, 1⟩ = w5 at BX BF LA BG LB LC Z ⊢
        clear KB fz
        obtain ⟨gx, x_0, x_1, x_2, x_3⟩ := BX.out
        obtain ⟨a0, a1, a2, a3, a4, a5, a6⟩ := BF.out.cells
        have la := BF.out.lt
        obtain ⟨d0, d1, d2, d3, d4, d5, d6⟩ := BG.out.cells
        have ld := BG.out.lt
        go_wp2_with fail
        refine (Tells.of (prk_any ⟨5, 3, 0, 0, 0, 0, 0⟩ _) (v' := .bool true) (by rw [ewp])).mono ?_
        rintro _ w6 ⟨rfl, z⟩
        clear gx x_0 x_1 x_2 x_3 a0 a1 a2 a3 a4 a5 a6 la d0 d1 d2 d3 d4 d5 d6 ld
        replace Z := Lib.hid (Z.out.trans (z.mono Z.out.size))
        replace BX := Lib.hid (BX.out.below z)
        replace BF := Lib.hid (BF.out.after z)
        replace LA := Lib.hid (LA.out.after z)
        replace BG := Lib.hid (BG.out.after z)
        replace LB := Lib.hid (LB.out.after z)
        replace LC := Lib.hid (LC.out.after z)
        clear z
        obtain ⟨gx, x_0, x_1, x_2, x_3⟩ := BX.out
        obtain ⟨d0, d1, d2, d3, d4, d5, d6⟩ := BG.out.cells
        have ld := BG.out.lt
        go_wp2_with fail
        refine (Tells.of (waits_any 1 1 1 0 0 A 12 c ew3 _ LA.out.rd rfl (by omega) ew_U3) (v' := .bool true) (by rw [eww])).mono ?_
        rintro _ w7 ⟨rfl, z⟩
        clear gx x_0 x_1 x_2 x_3 d0 d1 d2 d3 d4 d5 d6 ld
        replace Z := Lib.hid (Z.out.trans (z.mono Z.out.size))
        replace BX := Lib.hid (BX.out.below z)
        replace BF := Lib.hid (BF.out.after z)
        replace LA := Lib.hid (LA.out.after z)
        replace BG := Lib.hid (BG.out.after z)
        replace LB := Lib.hid (LB.out.after z)
        replace LC := Lib.hid (LC.out.after z)
        clear z
        obtain ⟨gx, x_0, x_1, x_2, x_3⟩ := BX.out
        obtain ⟨d0, d1, d2, d3, d4, d5, d6⟩ := BG.out.cells
        have ld := BG.out.lt
        go_wp2_with fail
        refine (park_any 1 1 1 0 0 _).mono ?_
        rintro _ w8 ⟨rfl, z⟩
        clear gx x_0 x_1 x_2 x_3 d0 d1 d2 d3 d4 d5 d6 ld
        replace Z := Lib.hid (Z.out.trans (z.mono Z.out.size))
        replace BX := Lib.hid (BX.out.below z)
        replace BF := Lib.hid (BF.out.after z)
        replace LA := Lib.hid (LA.out.after z)
        replace BG := Lib.hid (BG.out.after z)
        replace LB := Lib.hid (LB.out.after z)
        replace LC := Lib.hid (LC.out.after z)
        clear z
        obtain ⟨d0, d1, d2, d3, d4, d5, d6⟩ := BG.out.cells
        have ld := BG.out.lt
        go_wp2_with fail
        refine (ret_of (load_any A4 12 c4 ew3 _ _ LC.out.rd rfl (by omega)) (v' := .int .u64 0) (by rw [ewl])).mono ?_
        rintro _ w9 ⟨rfl, z⟩
        clear d0 d1 d2 d3 d4 d5 d6 ld
        replace Z := Lib.hid (Z.out.trans (z.mono Z.out.size))
        replace BX := Lib.hid (BX.out.below z)
        replace BF := Lib.hid (BF.out.after z)
        replace LA := Lib.hid (LA.out.after z)
        replace BG := Lib.hid (BG.out.after z)
        replace LB := Lib.hid (LB.out.after z)
        replace LC := Lib.hid (LC.out.after z)
        clear z
        go_wp2
        go_ret
        exact ⟨rfl, Z.out⟩
end Go.Proofs.Ytpnmgpmmaiinmaa
