/- The walk of NoteBetween. -/
import Derived.Test.YtjddglandcpfpaaCuL
import Derived.Test.YtjddglandcpfpaaPuL
import Derived.Test.YtjddglandcpfpaaWtE
import Derived.IntWalk
import Derived.Deep.RegionHeld3
namespace Go.Proofs.Ytjddglandcpfpaa
open Go.RowKit Go.Deep
theorem btw_big6 (W D J S k : Int) (A : Option Addr) (n c : Nat) (m : List Int) (w : World) (hm : Rd w A m) (hn : m.length = n) (hs : 500 < n) : Tells 4 #[cf W D J S, .slice A n c, .bool false, .int .i64 k] w (.bool true) := by
  have LM0 := Lib.hid hm
  have HN := Lib.hid hn
  clear hm hn
  have hd : decide ((500 : Int) < (n : Int)) = true := decide_eq_true (by omega)
  go_enter Try.func4, Try.ntmps4
  go_wp2_with fail
  refine (awake_any _).mono ?_
  rintro _ w1 ⟨rfl, z⟩
  have BX := Lib.hid ((Bx.mk w W D J S 23).below z)
  replace z := (box_below w _).trans (z.mono (by simp))
  have Z := Lib.hid z
  have LM := Lib.hid (LM0.out.below z)
  clear z LM0
  obtain ⟨gx, x_0, x_1, x_2, x_3⟩ := BX.out
  go_wp2_with fail
  refine (begin_any 6 0 0 _).mono ?_
  rintro _ w2 ⟨rfl, z⟩
  clear gx x_0 x_1 x_2 x_3
  replace Z := Lib.hid (Z.out.trans (z.mono Z.out.size))
  replace BX := Lib.hid (BX.out.below z)
  replace LM := Lib.hid (LM.out.below z)
  clear z
  go_wp2
  go_ret
  exact ⟨rfl, Z.out.alloc Z.out.size _⟩
theorem btw_no6 (W D J S k : Int) (A : Option Addr) (n c : Nat) (m : List Int) (w : World) (hm : Rd w A m) (hn : m.length = n) (hs : n ≤ 500) (ho : okm W D J S m = false) : Tells 4 #[cf W D J S, .slice A n c, .bool false, .int .i64 k] w (.bool true) := by
  have LM0 := Lib.hid hm
  have HN := Lib.hid hn
  clear hm hn
  have hd : decide ((500 : Int) < (n : Int)) = false := decide_eq_false (by omega)
  have HO := Lib.hid ho
  clear ho
  go_enter Try.func4, Try.ntmps4
  go_wp2_with fail
  refine (awake_any _).mono ?_
  rintro _ w1 ⟨rfl, z⟩
  have BX := Lib.hid ((Bx.mk w W D J S 23).below z)
  replace z := (box_below w _).trans (z.mono (by simp))
  have Z := Lib.hid z
  have LM := Lib.hid (LM0.out.below z)
  clear z LM0
  obtain ⟨gx, x_0, x_1, x_2, x_3⟩ := BX.out
  go_wp2_with fail
  refine (begin_any 6 0 0 _).mono ?_
  rintro _ w2 ⟨rfl, z⟩
  clear gx x_0 x_1 x_2 x_3
  replace Z := Lib.hid (Z.out.trans (z.mono Z.out.size))
  replace BX := Lib.hid (BX.out.below z)
  replace LM := Lib.hid (LM.out.below z)
  clear z
  obtain ⟨gx, x_0, x_1, x_2, x_3⟩ := BX.out
  go_wp2_with fail
  refine (Tells.of (ngoes_any W D J S A n c m (fbg 6 0 0) _ HN.out) (v' := .bool false) (by rw [goesN_begun (by simp), HO.out])).mono ?_
  rintro _ w3 ⟨rfl, z⟩
  clear gx x_0 x_1 x_2 x_3
  have BF := Lib.hid ((Bf.new w2 (fbg 6 0 0)).after z)
  replace z := keep_call z (bel_alloc w2 _)
  replace Z := Lib.hid (Z.out.trans (z.mono Z.out.size))
  replace BX := Lib.hid (BX.out.below z)
  replace LM := Lib.hid (LM.out.below z)
  clear z
  obtain ⟨gx, x_0, x_1, x_2, x_3⟩ := BX.out
  go_wp2
  go_ret
  exact ⟨rfl, Z.out⟩
theorem btw_neg6 (W D J S k : Int) (A : Option Addr) (n c : Nat) (m : List Int) (w : World) (hm : Rd w A m) (hn : m.length = n) (hs : n ≤ 500) (ho : okm W D J S m = true) (hk : k < 0) : Tells 4 #[cf W D J S, .slice A n c, .bool false, .int .i64 k] w (.bool true) := by
  have LM0 := Lib.hid hm
  have HN := Lib.hid hn
  clear hm hn
  have hd : decide ((500 : Int) < (n : Int)) = false := decide_eq_false (by omega)
  have HO := Lib.hid ho
  clear ho
  have hd1 : decide (k < 0) = true := decide_eq_true hk
  clear hk
  go_enter Try.func4, Try.ntmps4
  go_wp2_with fail
  refine (awake_any _).mono ?_
  rintro _ w1 ⟨rfl, z⟩
  have BX := Lib.hid ((Bx.mk w W D J S 23).below z)
  replace z := (box_below w _).trans (z.mono (by simp))
  have Z := Lib.hid z
  have LM := Lib.hid (LM0.out.below z)
  clear z LM0
  obtain ⟨gx, x_0, x_1, x_2, x_3⟩ := BX.out
  go_wp2_with fail
  refine (begin_any 6 0 0 _).mono ?_
  rintro _ w2 ⟨rfl, z⟩
  clear gx x_0 x_1 x_2 x_3
  replace Z := Lib.hid (Z.out.trans (z.mono Z.out.size))
  replace BX := Lib.hid (BX.out.below z)
  replace LM := Lib.hid (LM.out.below z)
  clear z
  obtain ⟨gx, x_0, x_1, x_2, x_3⟩ := BX.out
  go_wp2_with fail
  refine (Tells.of (ngoes_any W D J S A n c m (fbg 6 0 0) _ HN.out) (v' := .bool true) (by rw [goesN_begun (by simp), HO.out])).mono ?_
  rintro _ w3 ⟨rfl, z⟩
  clear gx x_0 x_1 x_2 x_3
  have BF := Lib.hid ((Bf.new w2 (fbg 6 0 0)).after z)
  replace z := keep_call z (bel_alloc w2 _)
  replace Z := Lib.hid (Z.out.trans (z.mono Z.out.size))
  replace BX := Lib.hid (BX.out.below z)
  replace LM := Lib.hid (LM.out.below z)
  clear z
  obtain ⟨gx, x_0, x_1, x_2, x_3⟩ := BX.out
  go_wp2
  go_ret
  exact ⟨rfl, Z.out⟩
theorem btw_far6 (W D J S k : Int) (A : Option Addr) (n c : Nat) (m : List Int) (w : World) (hm : Rd w A m) (hn : m.length = n) (hs : n ≤ 500) (ho : okm W D J S m = true) (h0 : 0 ≤ k) (hk : W ≤ k) : Tells 4 #[cf W D J S, .slice A n c, .bool false, .int .i64 k] w (.bool true) := by
  have LM0 := Lib.hid hm
  have HN := Lib.hid hn
  clear hm hn
  have hd : decide ((500 : Int) < (n : Int)) = false := decide_eq_false (by omega)
  have HO := Lib.hid ho
  clear ho
  have hd1 : decide (k < 0) = false := decide_eq_false (by omega)
  have hd2 : decide (W ≤ k) = true := decide_eq_true hk
  clear h0 hk
  go_enter Try.func4, Try.ntmps4
  go_wp2_with fail
  refine (awake_any _).mono ?_
  rintro _ w1 ⟨rfl, z⟩
  have BX := Lib.hid ((Bx.mk w W D J S 23).below z)
  replace z := (box_below w _).trans (z.mono (by simp))
  have Z := Lib.hid z
  have LM := Lib.hid (LM0.out.below z)
  clear z LM0
  obtain ⟨gx, x_0, x_1, x_2, x_3⟩ := BX.out
  go_wp2_with fail
  refine (begin_any 6 0 0 _).mono ?_
  rintro _ w2 ⟨rfl, z⟩
  clear gx x_0 x_1 x_2 x_3
  replace Z := Lib.hid (Z.out.trans (z.mono Z.out.size))
  replace BX := Lib.hid (BX.out.below z)
  replace LM := Lib.hid (LM.out.below z)
  clear z
  obtain ⟨gx, x_0, x_1, x_2, x_3⟩ := BX.out
  go_wp2_with fail
  refine (Tells.of (ngoes_any W D J S A n c m (fbg 6 0 0) _ HN.out) (v' := .bool true) (by rw [goesN_begun (by simp), HO.out])).mono ?_
  rintro _ w3 ⟨rfl, z⟩
  clear gx x_0 x_1 x_2 x_3
  have BF := Lib.hid ((Bf.new w2 (fbg 6 0 0)).after z)
  replace z := keep_call z (bel_alloc w2 _)
  replace Z := Lib.hid (Z.out.trans (z.mono Z.out.size))
  replace BX := Lib.hid (BX.out.below z)
  replace LM := Lib.hid (LM.out.below z)
  clear z
  obtain ⟨gx, x_0, x_1, x_2, x_3⟩ := BX.out
  go_wp2
  go_ret
  exact ⟨rfl, Z.out⟩
set_option maxHeartbeats 2000000 in
theorem btw_main6 (W D J S k : Int) (A : Option Addr) (n c : Nat) (m : List Int) (w : World) (hm : Rd w A m) (hn : m.length = n) (hs : n ≤ 500) (hu : UM m) (hk : okw W D J S m k = true) : Tells 4 #[cf W D J S, .slice A n c, .bool false, .int .i64 k] w (.bool true) := by
  have ho := okm_of hk
  obtain ⟨E, hE⟩ : ∃ E, at0 m 2 = E := ⟨_, rfl⟩
  have hue : U E := by rw [← hE]; exact at0_U hu 2
  obtain ⟨l', f', i20, hres, hev, _⟩ := alone_20 (o := 6) ho (by simp)
  have e1 := waitS_0 (v := 0) (x := 0) (y := 0) hk
  rw [hE] at e1 hev
  have hl' := noteN_len W D J S 20 (m, fbg 6 0 0)
  have hul := noteN_U (W := W) (D := D) (J := J) (S := S) (s := (m, fbg 6 0 0)) hu ⟨U0, U0, U0⟩ 20
  rw [i20] at hl' hul
  have k2 : okw W D J S l' k = true := by rw [okw_len (m := m) hl']; exact hk
  have e2 := waitS_1 (v := 0) (x := E) (y := 0) k2
  rw [if_neg (by rw [hev, nxN_epoch]; unfold U at hue; omega)] at e2
  have hov : (f'.res != 0) = true := by rw [hres]; split <;> rfl
  have hn2 : l'.length = n := hl'.trans hn
  have hkW := okw_iff.1 hk
  have hd1 : decide (k < 0) = false := decide_eq_false (by omega)
  have hd2 : decide (W ≤ k) = false := decide_eq_false (by omega)
  have LM0 := Lib.hid hm
  have HN := Lib.hid hn
  clear hm hn
  have hd : decide ((500 : Int) < (n : Int)) = false := decide_eq_false (by omega)
  have HO := Lib.hid ho
  have HS := Lib.hid hs
  have HUE := Lib.hid hue
  have HI := Lib.hid i20
  have HE1 := Lib.hid e1
  have HE2 := Lib.hid e2
  have HU := Lib.hid hu
  have HOV := Lib.hid hov
  have HN2 := Lib.hid hn2
  clear hk hE hres hev hul hl' k2 hkW ho hs hue i20 e1 e2 hu hov hn2
  go_enter Try.func4, Try.ntmps4
  go_wp2_with fail
  refine (awake_any _).mono ?_
  rintro _ w1 ⟨rfl, z⟩
  have BX := Lib.hid ((Bx.mk w W D J S 23).below z)
  replace z := (box_below w _).trans (z.mono (by simp))
  have Z := Lib.hid z
  have LM := Lib.hid (LM0.out.below z)
  clear z LM0
  obtain ⟨gx, x_0, x_1, x_2, x_3⟩ := BX.out
  go_wp2_with fail
  refine (begin_any 6 0 0 _).mono ?_
  rintro _ w2 ⟨rfl, z⟩
  clear gx x_0 x_1 x_2 x_3
  replace Z := Lib.hid (Z.out.trans (z.mono Z.out.size))
  replace BX := Lib.hid (BX.out.below z)
  replace LM := Lib.hid (LM.out.below z)
  clear z
  have HWF0 := Lib.hid BX.out.1
  obtain ⟨gx, x_0, x_1, x_2, x_3⟩ := BX.out
  go_wp2_with fail
  refine (Tells.of (ngoes_any W D J S A n c m (fbg 6 0 0) _ HN.out) (v' := .bool true) (by rw [goesN_begun (by simp), HO.out])).mono ?_
  rintro _ w3 ⟨rfl, z⟩
  clear gx x_0 x_1 x_2 x_3
  have BF := Lib.hid ((Bf.new w2 (fbg 6 0 0)).after z)
  replace z := keep_call z (bel_alloc w2 _)
  replace Z := Lib.hid (Z.out.trans (z.mono Z.out.size))
  replace BX := Lib.hid (BX.out.below z)
  replace LM := Lib.hid (LM.out.below z)
  clear z
  obtain ⟨gx, x_0, x_1, x_2, x_3⟩ := BX.out
  have HWF := Lib.hid (show w.heap.size < w2.heap.size from HWF0.out)
  go_upto_region 8 with fail
  have HGX := Lib.hid BX.out.1
  have HGF := Lib.hid BF.out.lt
  go_cut [12, 13] from 45 to 52 (fun x t wz => Hid (Cu w3 n m ⟨5, 1, k, 0, E, 0, 0⟩ x t wz))
  case first =>
    have HKc := Lib.hid (show ∀ x', Below w3.heap.size w3 x' → (fun w' => w'.cell? ⟨w.heap.size, 0, none⟩ = some (.int .i64 W) ∧ w'.cell? ⟨w.heap.size, 1, none⟩ = some (.int .i64 D) ∧ w'.cell? ⟨w.heap.size, 2, none⟩ = some (.int .i64 J) ∧ w'.cell? ⟨w.heap.size, 3, none⟩ = some (.int .i64 S) ∧ Below w3.heap.size w3 w') x' from fun x' hx => by
      obtain ⟨_, e0, e1, e2, e3⟩ := BX.out.below hx
      exact ⟨e0, e1, e2, e3, hx⟩)
    have hHeld0 := HKc.out _ (Below.refl _ _)
    have ZC := Lib.hid (Below.refl w3.heap.size w3).drew
    clear gx x_0 x_1 x_2 x_3
    refine wp_region_held_drew (S := fun w' => w'.cell? ⟨w.heap.size, 0, none⟩ = some (.int .i64 W) ∧ w'.cell? ⟨w.heap.size, 1, none⟩ = some (.int .i64 D) ∧ w'.cell? ⟨w.heap.size, 2, none⟩ = some (.int .i64 J) ∧ w'.cell? ⟨w.heap.size, 3, none⟩ = some (.int .i64 S) ∧ Below w3.heap.size w3 w') (by kernel_rfl) (hd_drew HKc.out (fun _ h => h.2.2.2.2) hHeld0) (fun hHeld => ?_)
    refine wpAnyH_take (i := 0) (oi := { dst := some 44, op := Go.Op.load 23 (Go.Operand.tmp 4), type := 23, pos := "law.go:87", after := #[], guard := none }) (v := ?vqb1) rfl (by kernel_rfl) (by kernel_rfl) (by kernel_rfl) (fun _ _ _ h => h) (Or.inl ⟨by rfl, ?yqb1⟩) (by assumption) ?rqb1
    case yqb1 => (intro w hSw; (try dsimp only at hSw); go_simp; (try with_reducible rfl))
    (try simp only [Act.put, List.setIfInBounds_toArray, List.set_cons_zero, List.set_cons_succ])
    refine wpAnyH_take (i := 1) (oi := { dst := some 45, op := Go.Op.move (Go.Operand.tmp 1), type := 25, pos := "law.go:87", after := #[], guard := none }) (v := ?vqb2) rfl (by kernel_rfl) (by kernel_rfl) (by kernel_rfl) (fun _ _ _ h => h) (Or.inl ⟨by rfl, ?yqb2⟩) (by assumption) ?rqb2
    case yqb2 => (intro w hSw; (try dsimp only at hSw); go_simp; (try with_reducible rfl))
    (try simp only [Act.put, List.setIfInBounds_toArray, List.set_cons_zero, List.set_cons_succ])
    refine wpAnyH_take (i := 2) (oi := { dst := some 46, op := Go.Op.move (Go.Operand.tmp 3), type := 3, pos := "law.go:87", after := #[], guard := none }) (v := ?vqb3) rfl (by kernel_rfl) (by kernel_rfl) (by kernel_rfl) (fun _ _ _ h => h) (Or.inl ⟨by rfl, ?yqb3⟩) (by assumption) ?rqb3
    case yqb3 => (intro w hSw; (try dsimp only at hSw); go_simp; (try with_reducible rfl))
    (try simp only [Act.put, List.setIfInBounds_toArray, List.set_cons_zero, List.set_cons_succ])
    refine wpAnyH_ready (rs := [3, 8]) (by kernel_rfl) (by simp) ?_
    refine (AllReadyH.cons (o := { dst := some 47, op := Go.Op.call { callee := Go.Callee.value (Go.Operand.func 9), args := #[Go.Operand.const (Go.Value.int Go.IntKind.i64 5), Go.Operand.tmp 46, Go.Operand.const (Go.Value.int Go.IntKind.u64 0)], argTypes := #[3, 3, 27] }, type := 29, pos := "law.go:87", after := #[{ on := 2, ground := Go.Ground.data }], guard := none }) rfl (fun K hK => ?_) (AllReadyH.cons (o := { dst := some 13, op := Go.Op.alloc 29, type := 0, pos := "law.go:87", after := #[], guard := none }) rfl (fun K hK => ?_) AllReadyH.nil))
    · go_simp
      refine (begin_any 5 k 0 _).mono ?_
      rintro e wa ⟨rfl, zb⟩
      go_wp2_with fail
      replace ZC := Lib.hid (keep_call zb ZC.out)
      clear zb
      refine hK.out _ _ (HKc.out _ ZC.out) (fun hHeld2 => ?_)
      clear hK K hHeld
      have hHeld := hHeld2
      clear hHeld2
      (try simp only [Act.put, List.setIfInBounds_toArray, List.set_cons_zero, List.set_cons_succ])
      refine wpAnyH_ready (rs := [4, 8]) (by kernel_rfl) (by simp) ?_
      refine (AllReadyH.cons (o := { dst := some 48, op := Go.Op.call { callee := Go.Callee.value (Go.Operand.func 20), args := #[Go.Operand.tmp 44, Go.Operand.tmp 45, Go.Operand.tmp 47], argTypes := #[23, 25, 29] }, type := 36, pos := "law.go:87", after := #[{ on := 0, ground := Go.Ground.data }, { on := 1, ground := Go.Ground.data }, { on := 3, ground := Go.Ground.data }, { on := 3, ground := Go.Ground.chain }], guard := none }) rfl (fun K hK => ?_) (AllReadyH.cons (o := { dst := some 13, op := Go.Op.alloc 29, type := 0, pos := "law.go:87", after := #[], guard := none }) rfl (fun K hK => ?_) AllReadyH.nil))
      · go_simp
        refine (wait_n (f := fbg 5 k 0) (LM.out.below ZC.out) HN.out HS.out ⟨U0, U0, U0⟩ HE1.out).mono ?_
        rintro e wo ⟨A9, c9, rfl, hn9, zb⟩
        go_wp2_with fail
        have HN9 := Lib.hid hn9
        clear hn9
        replace ZC := Lib.hid (keep_call zb ZC.out)
        clear zb
        refine hK.out _ _ (HKc.out _ ZC.out) (fun hHeld2 => ?_)
        clear hK K hHeld
        have hHeld := hHeld2
        clear hHeld2
        (try simp only [Act.put, List.setIfInBounds_toArray, List.set_cons_zero, List.set_cons_succ])
        refine wpAnyH_take (i := 5) (oi := { dst := some 43, op := Go.Op.move (Go.Operand.tmp 48), type := 36, pos := "law.go:87", after := #[{ on := 4, ground := Go.Ground.data }], guard := none }) (v := ?vqb4) rfl (by kernel_rfl) (by kernel_rfl) (by kernel_rfl) (fun _ _ _ h => h) (Or.inl ⟨by rfl, ?yqb4⟩) (by assumption) ?rqb4
        case yqb4 => (intro w hSw; (try dsimp only at hSw); go_simp; (try with_reducible rfl))
        (try simp only [Act.put, List.setIfInBounds_toArray, List.set_cons_zero, List.set_cons_succ])
        refine wpAnyH_take (i := 6) (oi := { dst := some 49, op := Go.Op.extract (Go.Operand.tmp 43) 0, type := 25, pos := "law.go:87", after := #[{ on := 5, ground := Go.Ground.data }], guard := none }) (v := ?vqb5) rfl (by kernel_rfl) (by kernel_rfl) (by kernel_rfl) (fun _ _ _ h => h) (Or.inl ⟨by rfl, ?yqb5⟩) (by assumption) ?rqb5
        case yqb5 => (intro w hSw; (try dsimp only at hSw); go_simp; (try with_reducible rfl))
        (try simp only [Act.put, List.setIfInBounds_toArray, List.set_cons_zero, List.set_cons_succ])
        refine wpAnyH_take (i := 7) (oi := { dst := some 50, op := Go.Op.extract (Go.Operand.tmp 43) 1, type := 29, pos := "law.go:87", after := #[{ on := 5, ground := Go.Ground.data }, { on := 9, ground := Go.Ground.gcOnly Go.Departure.lateStores }], guard := none }) (v := ?vqb6) rfl (by kernel_rfl) (by kernel_rfl) (by kernel_rfl) (fun _ _ _ h => h) (Or.inl ⟨by rfl, ?yqb6⟩) (by assumption) ?rqb6
        case yqb6 => (intro w hSw; (try dsimp only at hSw); go_simp; (try with_reducible rfl))
        (try simp only [Act.put, List.setIfInBounds_toArray, List.set_cons_zero, List.set_cons_succ])
        refine wpAnyH_ready (rs := [8]) (by kernel_rfl) (by simp) ?_
        refine (AllReadyH.cons (o := { dst := some 13, op := Go.Op.alloc 29, type := 0, pos := "law.go:87", after := #[], guard := none }) rfl (fun K hK => ?_) AllReadyH.nil)
        go_simp
        have HGS := Lib.hid (show w3.heap.size ≤ wo.heap.size from ZC.out.size)
        have ZO := ZC
        have EO := Lib.hid (show Bf (wo.alloc (.cells #[.int .i64 0, .int .i64 0, .int .i64 0, .int .u64 0, .int .u64 0, .int .u64 0, .int .i64 0] 29)) wo.heap.size f0 from Bf.new wo f0)
        replace ZC := Lib.hid (ZO.out.alloc ZO.out.size (.cells #[.int .i64 0, .int .i64 0, .int .i64 0, .int .u64 0, .int .u64 0, .int .u64 0, .int .i64 0] 29))
        refine hK.out _ _ (HKc.out _ ZC.out) (fun hHeld2 => ?_)
        clear hK K hHeld
        have hHeld := hHeld2
        clear hHeld2
        (try simp only [Act.put, List.setIfInBounds_toArray, List.set_cons_zero, List.set_cons_succ])
        refine wpAnyH_take (i := 9) (oi := { dst := some 12, op := Go.Op.assign (Go.Operand.tmp 49), type := 25, pos := "law.go:87", after := #[{ on := 6, ground := Go.Ground.data }, { on := 4, ground := Go.Ground.chain }, { on := 0, ground := Go.Ground.phase }, { on := 1, ground := Go.Ground.phase }, { on := 2, ground := Go.Ground.phase }, { on := 3, ground := Go.Ground.phase }, { on := 4, ground := Go.Ground.phase }, { on := 5, ground := Go.Ground.phase }, { on := 6, ground := Go.Ground.phase }, { on := 7, ground := Go.Ground.textOnly Go.Departure.lateStores }, { on := 8, ground := Go.Ground.phase }], guard := none }) (v := ?vqb7) rfl (by kernel_rfl) (by kernel_rfl) (by kernel_rfl) (fun _ _ _ h => h) (Or.inl ⟨by rfl, ?yqb7⟩) (by assumption) ?rqb7
        case yqb7 => (intro w hSw; (try dsimp only at hSw); go_simp; (try with_reducible rfl))
        (try simp only [Act.put, List.setIfInBounds_toArray, List.set_cons_zero, List.set_cons_succ])
        refine wpAnyH_ready (rs := [10]) (by kernel_rfl) (by simp) ?_
        refine (AllReadyH.cons (o := { dst := none, op := Go.Op.store 29 (Go.Operand.tmp 13) (Go.Operand.tmp 50), type := 0, pos := "law.go:87", after := #[{ on := 8, ground := Go.Ground.data }, { on := 7, ground := Go.Ground.data }, { on := 9, ground := Go.Ground.chain }, { on := 0, ground := Go.Ground.phase }, { on := 1, ground := Go.Ground.phase }, { on := 2, ground := Go.Ground.phase }, { on := 3, ground := Go.Ground.phase }, { on := 4, ground := Go.Ground.phase }, { on := 5, ground := Go.Ground.phase }, { on := 6, ground := Go.Ground.phase }, { on := 7, ground := Go.Ground.phase }, { on := 8, ground := Go.Ground.phase }, { on := 9, ground := Go.Ground.phase }], guard := none }) rfl (fun K hK => ?_) AllReadyH.nil)
        go_simp
        refine hK.out _ _ (HKc.out _ (ZO.out.alloc ZO.out.size _)) (fun hHeld2 => ?_)
        clear hK K hHeld
        have hHeld := hHeld2
        clear hHeld2
        (try simp only [Act.put, List.setIfInBounds_toArray, List.set_cons_zero, List.set_cons_succ])
        refine wpAnyH_done (by kernel_rfl) ?_ _
        go_wp2_with fail
        go_meet
        exact Lib.hid (Cu.last ⟨5, 1, k, 0, E, 0, 0⟩ HN9.out ZO.out)
      · go_simp
        have HGS := Lib.hid (show w3.heap.size ≤ wa.heap.size from ZC.out.size)
        have ZO := ZC
        have EO := Lib.hid (show Bf (wa.alloc (.cells #[.int .i64 0, .int .i64 0, .int .i64 0, .int .u64 0, .int .u64 0, .int .u64 0, .int .i64 0] 29)) wa.heap.size f0 from Bf.new wa f0)
        replace ZC := Lib.hid (ZO.out.alloc ZO.out.size (.cells #[.int .i64 0, .int .i64 0, .int .i64 0, .int .u64 0, .int .u64 0, .int .u64 0, .int .i64 0] 29))
        refine hK.out _ _ (HKc.out _ ZC.out) (fun hHeld2 => ?_)
        clear hK K hHeld
        have hHeld := hHeld2
        clear hHeld2
        (try simp only [Act.put, List.setIfInBounds_toArray, List.set_cons_zero, List.set_cons_succ])
        refine wpAnyH_ready (rs := [4]) (by kernel_rfl) (by simp) ?_
        refine (AllReadyH.cons (o := { dst := some 48, op := Go.Op.call { callee := Go.Callee.value (Go.Operand.func 20), args := #[Go.Operand.tmp 44, Go.Operand.tmp 45, Go.Operand.tmp 47], argTypes := #[23, 25, 29] }, type := 36, pos := "law.go:87", after := #[{ on := 0, ground := Go.Ground.data }, { on := 1, ground := Go.Ground.data }, { on := 3, ground := Go.Ground.data }, { on := 3, ground := Go.Ground.chain }], guard := none }) rfl (fun K hK => ?_) AllReadyH.nil)
        go_simp
        refine (wait_n (f := fbg 5 k 0) (LM.out.below ZC.out) HN.out HS.out ⟨U0, U0, U0⟩ HE1.out).mono ?_
        rintro e wo ⟨A9, c9, rfl, hn9, zb⟩
        go_wp2_with fail
        have HN9 := Lib.hid hn9
        clear hn9
        have HLT := Lib.hid EO.out.lt
        replace ZC := Lib.hid (keep_call zb ZC.out)
        replace EO := Lib.hid (EO.out.after zb)
        obtain ⟨d0, d1, d2, d3, d4, d5, d6⟩ := EO.out.cells
        have fz := EO.out.free
        have ld := EO.out.lt
        clear zb
        refine hK.out _ _ (HKc.out _ ZC.out) (fun hHeld2 => ?_)
        clear hK K hHeld
        have hHeld := hHeld2
        clear hHeld2
        (try simp only [Act.put, List.setIfInBounds_toArray, List.set_cons_zero, List.set_cons_succ])
        refine wpAnyH_take (i := 5) (oi := { dst := some 43, op := Go.Op.move (Go.Operand.tmp 48), type := 36, pos := "law.go:87", after := #[{ on := 4, ground := Go.Ground.data }], guard := none }) (v := ?vqb8) rfl (by kernel_rfl) (by kernel_rfl) (by kernel_rfl) (fun _ _ _ h => h) (Or.inl ⟨by rfl, ?yqb8⟩) (by assumption) ?rqb8
        case yqb8 => (intro w hSw; (try dsimp only at hSw); go_simp; (try with_reducible rfl))
        (try simp only [Act.put, List.setIfInBounds_toArray, List.set_cons_zero, List.set_cons_succ])
        refine wpAnyH_take (i := 6) (oi := { dst := some 49, op := Go.Op.extract (Go.Operand.tmp 43) 0, type := 25, pos := "law.go:87", after := #[{ on := 5, ground := Go.Ground.data }], guard := none }) (v := ?vqb9) rfl (by kernel_rfl) (by kernel_rfl) (by kernel_rfl) (fun _ _ _ h => h) (Or.inl ⟨by rfl, ?yqb9⟩) (by assumption) ?rqb9
        case yqb9 => (intro w hSw; (try dsimp only at hSw); go_simp; (try with_reducible rfl))
        (try simp only [Act.put, List.setIfInBounds_toArray, List.set_cons_zero, List.set_cons_succ])
        refine wpAnyH_take (i := 7) (oi := { dst := some 50, op := Go.Op.extract (Go.Operand.tmp 43) 1, type := 29, pos := "law.go:87", after := #[{ on := 5, ground := Go.Ground.data }, { on := 9, ground := Go.Ground.gcOnly Go.Departure.lateStores }], guard := none }) (v := ?vqb10) rfl (by kernel_rfl) (by kernel_rfl) (by kernel_rfl) (fun _ _ _ h => h) (Or.inl ⟨by rfl, ?yqb10⟩) (by assumption) ?rqb10
        case yqb10 => (intro w hSw; (try dsimp only at hSw); go_simp; (try with_reducible rfl))
        (try simp only [Act.put, List.setIfInBounds_toArray, List.set_cons_zero, List.set_cons_succ])
        refine wpAnyH_take (i := 9) (oi := { dst := some 12, op := Go.Op.assign (Go.Operand.tmp 49), type := 25, pos := "law.go:87", after := #[{ on := 6, ground := Go.Ground.data }, { on := 4, ground := Go.Ground.chain }, { on := 0, ground := Go.Ground.phase }, { on := 1, ground := Go.Ground.phase }, { on := 2, ground := Go.Ground.phase }, { on := 3, ground := Go.Ground.phase }, { on := 4, ground := Go.Ground.phase }, { on := 5, ground := Go.Ground.phase }, { on := 6, ground := Go.Ground.phase }, { on := 7, ground := Go.Ground.textOnly Go.Departure.lateStores }, { on := 8, ground := Go.Ground.phase }], guard := none }) (v := ?vqb11) rfl (by kernel_rfl) (by kernel_rfl) (by kernel_rfl) (fun _ _ _ h => h) (Or.inl ⟨by rfl, ?yqb11⟩) (by assumption) ?rqb11
        case yqb11 => (intro w hSw; (try dsimp only at hSw); go_simp; (try with_reducible rfl))
        (try simp only [Act.put, List.setIfInBounds_toArray, List.set_cons_zero, List.set_cons_succ])
        refine wpAnyH_ready (rs := [10]) (by kernel_rfl) (by simp) ?_
        refine (AllReadyH.cons (o := { dst := none, op := Go.Op.store 29 (Go.Operand.tmp 13) (Go.Operand.tmp 50), type := 0, pos := "law.go:87", after := #[{ on := 8, ground := Go.Ground.data }, { on := 7, ground := Go.Ground.data }, { on := 9, ground := Go.Ground.chain }, { on := 0, ground := Go.Ground.phase }, { on := 1, ground := Go.Ground.phase }, { on := 2, ground := Go.Ground.phase }, { on := 3, ground := Go.Ground.phase }, { on := 4, ground := Go.Ground.phase }, { on := 5, ground := Go.Ground.phase }, { on := 6, ground := Go.Ground.phase }, { on := 7, ground := Go.Ground.phase }, { on := 8, ground := Go.Ground.phase }, { on := 9, ground := Go.Ground.phase }], guard := none }) rfl (fun K hK => ?_) AllReadyH.nil)
        go_simp
        refine hK.out _ _ (hd_set7g HKc.out HGS.out _ _ _ _ _ _ _ ZC.out) (fun hHeld2 => ?_)
        clear hK K hHeld
        have hHeld := hHeld2
        clear hHeld2
        (try simp only [Act.put, List.setIfInBounds_toArray, List.set_cons_zero, List.set_cons_succ])
        refine wpAnyH_done (by kernel_rfl) ?_ _
        go_wp2_with fail
        go_meet
        exact Lib.hid (Cu.box ⟨5, 1, k, 0, E, 0, 0⟩ EO.out HGS.out HN9.out HLT.out ZC.out)
    · go_simp
      have HGS := Lib.hid (show w3.heap.size ≤ w3.heap.size from ZC.out.size)
      have ZO := ZC
      have EO := Lib.hid (show Bf (w3.drew.alloc (.cells #[.int .i64 0, .int .i64 0, .int .i64 0, .int .u64 0, .int .u64 0, .int .u64 0, .int .i64 0] 29)) w3.heap.size f0 from Bf.new w3.drew f0)
      replace ZC := Lib.hid (ZO.out.alloc ZO.out.size (.cells #[.int .i64 0, .int .i64 0, .int .i64 0, .int .u64 0, .int .u64 0, .int .u64 0, .int .i64 0] 29))
      refine hK.out _ _ (HKc.out _ ZC.out) (fun hHeld2 => ?_)
      clear hK K hHeld
      have hHeld := hHeld2
      clear hHeld2
      (try simp only [Act.put, List.setIfInBounds_toArray, List.set_cons_zero, List.set_cons_succ])
      refine wpAnyH_ready (rs := [3]) (by kernel_rfl) (by simp) ?_
      refine (AllReadyH.cons (o := { dst := some 47, op := Go.Op.call { callee := Go.Callee.value (Go.Operand.func 9), args := #[Go.Operand.const (Go.Value.int Go.IntKind.i64 5), Go.Operand.tmp 46, Go.Operand.const (Go.Value.int Go.IntKind.u64 0)], argTypes := #[3, 3, 27] }, type := 29, pos := "law.go:87", after := #[{ on := 2, ground := Go.Ground.data }], guard := none }) rfl (fun K hK => ?_) AllReadyH.nil)
      go_simp
      refine (begin_any 5 k 0 _).mono ?_
      rintro e wa ⟨rfl, zb⟩
      go_wp2_with fail
      replace ZC := Lib.hid (keep_call zb ZC.out)
      replace EO := Lib.hid (EO.out.after zb)
      clear zb
      refine hK.out _ _ (HKc.out _ ZC.out) (fun hHeld2 => ?_)
      clear hK K hHeld
      have hHeld := hHeld2
      clear hHeld2
      (try simp only [Act.put, List.setIfInBounds_toArray, List.set_cons_zero, List.set_cons_succ])
      refine wpAnyH_ready (rs := [4]) (by kernel_rfl) (by simp) ?_
      refine (AllReadyH.cons (o := { dst := some 48, op := Go.Op.call { callee := Go.Callee.value (Go.Operand.func 20), args := #[Go.Operand.tmp 44, Go.Operand.tmp 45, Go.Operand.tmp 47], argTypes := #[23, 25, 29] }, type := 36, pos := "law.go:87", after := #[{ on := 0, ground := Go.Ground.data }, { on := 1, ground := Go.Ground.data }, { on := 3, ground := Go.Ground.data }, { on := 3, ground := Go.Ground.chain }], guard := none }) rfl (fun K hK => ?_) AllReadyH.nil)
      go_simp
      refine (wait_n (f := fbg 5 k 0) (LM.out.below ZC.out) HN.out HS.out ⟨U0, U0, U0⟩ HE1.out).mono ?_
      rintro e wo ⟨A9, c9, rfl, hn9, zb⟩
      go_wp2_with fail
      have HN9 := Lib.hid hn9
      clear hn9
      have HLT := Lib.hid EO.out.lt
      replace ZC := Lib.hid (keep_call zb ZC.out)
      replace EO := Lib.hid (EO.out.after zb)
      obtain ⟨d0, d1, d2, d3, d4, d5, d6⟩ := EO.out.cells
      have fz := EO.out.free
      have ld := EO.out.lt
      clear zb
      refine hK.out _ _ (HKc.out _ ZC.out) (fun hHeld2 => ?_)
      clear hK K hHeld
      have hHeld := hHeld2
      clear hHeld2
      (try simp only [Act.put, List.setIfInBounds_toArray, List.set_cons_zero, List.set_cons_succ])
      refine wpAnyH_take (i := 5) (oi := { dst := some 43, op := Go.Op.move (Go.Operand.tmp 48), type := 36, pos := "law.go:87", after := #[{ on := 4, ground := Go.Ground.data }], guard := none }) (v := ?vqb12) rfl (by kernel_rfl) (by kernel_rfl) (by kernel_rfl) (fun _ _ _ h => h) (Or.inl ⟨by rfl, ?yqb12⟩) (by assumption) ?rqb12
      case yqb12 => (intro w hSw; (try dsimp only at hSw); go_simp; (try with_reducible rfl))
      (try simp only [Act.put, List.setIfInBounds_toArray, List.set_cons_zero, List.set_cons_succ])
      refine wpAnyH_take (i := 6) (oi := { dst := some 49, op := Go.Op.extract (Go.Operand.tmp 43) 0, type := 25, pos := "law.go:87", after := #[{ on := 5, ground := Go.Ground.data }], guard := none }) (v := ?vqb13) rfl (by kernel_rfl) (by kernel_rfl) (by kernel_rfl) (fun _ _ _ h => h) (Or.inl ⟨by rfl, ?yqb13⟩) (by assumption) ?rqb13
      case yqb13 => (intro w hSw; (try dsimp only at hSw); go_simp; (try with_reducible rfl))
      (try simp only [Act.put, List.setIfInBounds_toArray, List.set_cons_zero, List.set_cons_succ])
      refine wpAnyH_take (i := 7) (oi := { dst := some 50, op := Go.Op.extract (Go.Operand.tmp 43) 1, type := 29, pos := "law.go:87", after := #[{ on := 5, ground := Go.Ground.data }, { on := 9, ground := Go.Ground.gcOnly Go.Departure.lateStores }], guard := none }) (v := ?vqb14) rfl (by kernel_rfl) (by kernel_rfl) (by kernel_rfl) (fun _ _ _ h => h) (Or.inl ⟨by rfl, ?yqb14⟩) (by assumption) ?rqb14
      case yqb14 => (intro w hSw; (try dsimp only at hSw); go_simp; (try with_reducible rfl))
      (try simp only [Act.put, List.setIfInBounds_toArray, List.set_cons_zero, List.set_cons_succ])
      refine wpAnyH_take (i := 9) (oi := { dst := some 12, op := Go.Op.assign (Go.Operand.tmp 49), type := 25, pos := "law.go:87", after := #[{ on := 6, ground := Go.Ground.data }, { on := 4, ground := Go.Ground.chain }, { on := 0, ground := Go.Ground.phase }, { on := 1, ground := Go.Ground.phase }, { on := 2, ground := Go.Ground.phase }, { on := 3, ground := Go.Ground.phase }, { on := 4, ground := Go.Ground.phase }, { on := 5, ground := Go.Ground.phase }, { on := 6, ground := Go.Ground.phase }, { on := 7, ground := Go.Ground.textOnly Go.Departure.lateStores }, { on := 8, ground := Go.Ground.phase }], guard := none }) (v := ?vqb15) rfl (by kernel_rfl) (by kernel_rfl) (by kernel_rfl) (fun _ _ _ h => h) (Or.inl ⟨by rfl, ?yqb15⟩) (by assumption) ?rqb15
      case yqb15 => (intro w hSw; (try dsimp only at hSw); go_simp; (try with_reducible rfl))
      (try simp only [Act.put, List.setIfInBounds_toArray, List.set_cons_zero, List.set_cons_succ])
      refine wpAnyH_ready (rs := [10]) (by kernel_rfl) (by simp) ?_
      refine (AllReadyH.cons (o := { dst := none, op := Go.Op.store 29 (Go.Operand.tmp 13) (Go.Operand.tmp 50), type := 0, pos := "law.go:87", after := #[{ on := 8, ground := Go.Ground.data }, { on := 7, ground := Go.Ground.data }, { on := 9, ground := Go.Ground.chain }, { on := 0, ground := Go.Ground.phase }, { on := 1, ground := Go.Ground.phase }, { on := 2, ground := Go.Ground.phase }, { on := 3, ground := Go.Ground.phase }, { on := 4, ground := Go.Ground.phase }, { on := 5, ground := Go.Ground.phase }, { on := 6, ground := Go.Ground.phase }, { on := 7, ground := Go.Ground.phase }, { on := 8, ground := Go.Ground.phase }, { on := 9, ground := Go.Ground.phase }], guard := none }) rfl (fun K hK => ?_) AllReadyH.nil)
      go_simp
      refine hK.out _ _ (hd_set7g HKc.out HGS.out _ _ _ _ _ _ _ ZC.out) (fun hHeld2 => ?_)
      clear hK K hHeld
      have hHeld := hHeld2
      clear hHeld2
      (try simp only [Act.put, List.setIfInBounds_toArray, List.set_cons_zero, List.set_cons_succ])
      refine wpAnyH_done (by kernel_rfl) ?_ _
      go_wp2_with fail
      go_meet
      exact Lib.hid (Cu.box ⟨5, 1, k, 0, E, 0, 0⟩ EO.out HGS.out HN9.out HLT.out ZC.out)
  case rest =>
    clear LM
    obtain ⟨gb, Ag, cg, rfl, rfl, hE, hB, hR, hz⟩ := hcut.out
    replace BX := Lib.hid (BX.out.below hz)
    replace BF := Lib.hid (BF.out.after hz)
    replace Z := Lib.hid (Z.out.trans (hz.mono Z.out.size))
    have BG := Lib.hid hB
    have LN := Lib.hid hR
    have Hgb := Lib.hid hE
    clear hE hB hR hz hcut
    have HNX := Lib.hid (Nat.ne_of_lt (Nat.lt_of_lt_of_le HGX.out Hgb.out))
    have HNF := Lib.hid (Nat.ne_of_lt (Nat.lt_of_lt_of_le HGF.out Hgb.out))
    have HNG := Lib.hid (Nat.ne_of_gt (Nat.lt_of_lt_of_le HGF.out Hgb.out))
    have HLT := Lib.hid BF.out.lt
    have HXF := Lib.hid (show w.heap.size ≠ w2.heap.size from Nat.ne_of_lt HWF.out)
    have HZG := Lib.hid (Nat.le_of_lt HWF.out)
    obtain ⟨gx, x_0, x_1, x_2, x_3⟩ := BX.out
    obtain ⟨a0, a1, a2, a3, a4, a5, a6⟩ := BF.out.cells
    have la := BF.out.lt
    simp only [fbg] at a0 a1 a2 a3 a4 a5 a6
    go_wp2_with fail
    refine (alone_n (f := fbg 6 0 0) LN.out.rd HN.out HS.out HU.out ⟨U0, U0, U0⟩ HI.out).mono ?_
    rintro _ w11 ⟨A11, c11, rfl, hn11, z⟩
    clear gx x_0 x_1 x_2 x_3 a0 a1 a2 a3 a4 a5 a6 la
    replace Z := Lib.hid (Z.out.trans (z.mono Z.out.size))
    replace BX := Lib.hid (BX.out.below z)
    replace BF := Lib.hid (BF.out.after z)
    replace BG := Lib.hid (BG.out.after z)
    have LO := Lib.hid (hn11.rx (lo := 0) (g := w2.heap.size) (Nat.zero_le _) (.inl HLT.out))
    clear hn11 z
    obtain ⟨d0, d1, d2, d3, d4, d5, d6⟩ := BF.out.cells
    have ld := BF.out.lt
    have fz := BF.out.free
    go_upto_region 10 with fail
    change Code.wp _ _ _ _ (pf w11 w2.heap.size f')
    have KB := Lib.hid ((Kb.refl w2.heap.size w11).pf f')
    replace BF := Lib.hid (BF.out.pf f')
    replace Z := Lib.hid (Z.out.trans (KB.out.low.mono HZG.out))
    replace BX := Lib.hid (BX.out.kb KB.out HXF.out)
    replace BG := Lib.hid (BG.out.kb KB.out HNG.out)
    replace LO := Lib.hid (LO.out.kb KB.out)
    clear d0 d1 d2 d3 d4 d5 d6 ld
    generalize pf w11 w2.heap.size f' = w12 at BX BF BG LO Z ⊢
    clear KB fz
    clear HLT HZG
    have HLT := Lib.hid BG.out.lt
    have HZG := Lib.hid (Nat.le_of_lt (Nat.lt_of_lt_of_le HGX.out Hgb.out))
    obtain ⟨gx, x_0, x_1, x_2, x_3⟩ := BX.out
    obtain ⟨d0, d1, d2, d3, d4, d5, d6⟩ := BG.out.cells
    have ld := BG.out.lt
    go_wp2_with fail
    refine (wait_n (f := ⟨5, 1, k, 0, E, 0, 0⟩) LO.out.rd HN2.out HS.out ⟨U0, HUE.out, U0⟩ HE2.out).mono ?_
    rintro _ w13 ⟨A13, c13, rfl, hn13, z⟩
    clear gx x_0 x_1 x_2 x_3 d0 d1 d2 d3 d4 d5 d6 ld
    replace Z := Lib.hid (Z.out.trans (z.mono Z.out.size))
    replace BX := Lib.hid (BX.out.below z)
    replace BF := Lib.hid (BF.out.after z)
    replace BG := Lib.hid (BG.out.after z)
    have LP := Lib.hid (hn13.rx (lo := 0) (g := gb) (Nat.zero_le _) (.inl HLT.out))
    clear hn13 z
    obtain ⟨d0, d1, d2, d3, d4, d5, d6⟩ := BG.out.cells
    have ld := BG.out.lt
    have fz := BG.out.free
    go_upto_region 11 with fail
    change Code.wp _ _ _ _ (pf w13 gb ⟨5, 0, k, 0, 0, 0, 4⟩)
    have KB := Lib.hid ((Kb.refl gb w13).pf ⟨5, 0, k, 0, 0, 0, 4⟩)
    replace BG := Lib.hid (BG.out.pf ⟨5, 0, k, 0, 0, 0, 4⟩)
    replace Z := Lib.hid (Z.out.trans (KB.out.low.mono HZG.out))
    replace BX := Lib.hid (BX.out.kb KB.out HNX.out)
    replace BF := Lib.hid (BF.out.kb KB.out HNF.out)
    replace LP := Lib.hid (LP.out.kb KB.out)
    clear d0 d1 d2 d3 d4 d5 d6 ld
    generalize pf w13 gb ⟨5, 0, k, 0, 0, 0, 4⟩ = w14 at BX BF BG LP Z ⊢
    clear KB fz
    obtain ⟨a0, a1, a2, a3, a4, a5, a6⟩ := BF.out.cells
    have la := BF.out.lt
    obtain ⟨d0, d1, d2, d3, d4, d5, d6⟩ := BG.out.cells
    have ld := BG.out.lt
    go_wp2_with fail
    refine (Tells.of (over_any f' _) (v' := .bool true) (by rw [HOV.out])).mono ?_
    rintro _ w15 ⟨rfl, z⟩
    clear a0 a1 a2 a3 a4 a5 a6 la d0 d1 d2 d3 d4 d5 d6 ld
    replace Z := Lib.hid (Z.out.trans (z.mono Z.out.size))
    replace BX := Lib.hid (BX.out.below z)
    replace BF := Lib.hid (BF.out.after z)
    replace BG := Lib.hid (BG.out.after z)
    replace LP := Lib.hid (LP.out.after z)
    clear z
    obtain ⟨d0, d1, d2, d3, d4, d5, d6⟩ := BG.out.cells
    have ld := BG.out.lt
    go_wp2
    go_ret
    exact ⟨rfl, Z.out⟩
theorem btw_big7 (W D J S k : Int) (A : Option Addr) (n c : Nat) (m : List Int) (w : World) (hm : Rd w A m) (hn : m.length = n) (hs : 500 < n) : Tells 4 #[cf W D J S, .slice A n c, .bool true, .int .i64 k] w (.bool true) := by
  have LM0 := Lib.hid hm
  have HN := Lib.hid hn
  clear hm hn
  have hd : decide ((500 : Int) < (n : Int)) = true := decide_eq_true (by omega)
  go_enter Try.func4, Try.ntmps4
  go_wp2_with fail
  refine (awake_any _).mono ?_
  rintro _ w1 ⟨rfl, z⟩
  have BX := Lib.hid ((Bx.mk w W D J S 23).below z)
  replace z := (box_below w _).trans (z.mono (by simp))
  have Z := Lib.hid z
  have LM := Lib.hid (LM0.out.below z)
  clear z LM0
  obtain ⟨gx, x_0, x_1, x_2, x_3⟩ := BX.out
  go_wp2_with fail
  refine (begin_any 7 0 0 _).mono ?_
  rintro _ w2 ⟨rfl, z⟩
  clear gx x_0 x_1 x_2 x_3
  replace Z := Lib.hid (Z.out.trans (z.mono Z.out.size))
  replace BX := Lib.hid (BX.out.below z)
  replace LM := Lib.hid (LM.out.below z)
  clear z
  go_wp2
  go_ret
  exact ⟨rfl, Z.out.alloc Z.out.size _⟩
theorem btw_no7 (W D J S k : Int) (A : Option Addr) (n c : Nat) (m : List Int) (w : World) (hm : Rd w A m) (hn : m.length = n) (hs : n ≤ 500) (ho : okm W D J S m = false) : Tells 4 #[cf W D J S, .slice A n c, .bool true, .int .i64 k] w (.bool true) := by
  have LM0 := Lib.hid hm
  have HN := Lib.hid hn
  clear hm hn
  have hd : decide ((500 : Int) < (n : Int)) = false := decide_eq_false (by omega)
  have HO := Lib.hid ho
  clear ho
  go_enter Try.func4, Try.ntmps4
  go_wp2_with fail
  refine (awake_any _).mono ?_
  rintro _ w1 ⟨rfl, z⟩
  have BX := Lib.hid ((Bx.mk w W D J S 23).below z)
  replace z := (box_below w _).trans (z.mono (by simp))
  have Z := Lib.hid z
  have LM := Lib.hid (LM0.out.below z)
  clear z LM0
  obtain ⟨gx, x_0, x_1, x_2, x_3⟩ := BX.out
  go_wp2_with fail
  refine (begin_any 7 0 0 _).mono ?_
  rintro _ w2 ⟨rfl, z⟩
  clear gx x_0 x_1 x_2 x_3
  replace Z := Lib.hid (Z.out.trans (z.mono Z.out.size))
  replace BX := Lib.hid (BX.out.below z)
  replace LM := Lib.hid (LM.out.below z)
  clear z
  obtain ⟨gx, x_0, x_1, x_2, x_3⟩ := BX.out
  go_wp2_with fail
  refine (Tells.of (ngoes_any W D J S A n c m (fbg 7 0 0) _ HN.out) (v' := .bool false) (by rw [goesN_begun (by simp), HO.out])).mono ?_
  rintro _ w3 ⟨rfl, z⟩
  clear gx x_0 x_1 x_2 x_3
  have BF := Lib.hid ((Bf.new w2 (fbg 7 0 0)).after z)
  replace z := keep_call z (bel_alloc w2 _)
  replace Z := Lib.hid (Z.out.trans (z.mono Z.out.size))
  replace BX := Lib.hid (BX.out.below z)
  replace LM := Lib.hid (LM.out.below z)
  clear z
  obtain ⟨gx, x_0, x_1, x_2, x_3⟩ := BX.out
  go_wp2
  go_ret
  exact ⟨rfl, Z.out⟩
theorem btw_neg7 (W D J S k : Int) (A : Option Addr) (n c : Nat) (m : List Int) (w : World) (hm : Rd w A m) (hn : m.length = n) (hs : n ≤ 500) (ho : okm W D J S m = true) (hk : k < 0) : Tells 4 #[cf W D J S, .slice A n c, .bool true, .int .i64 k] w (.bool true) := by
  have LM0 := Lib.hid hm
  have HN := Lib.hid hn
  clear hm hn
  have hd : decide ((500 : Int) < (n : Int)) = false := decide_eq_false (by omega)
  have HO := Lib.hid ho
  clear ho
  have hd1 : decide (k < 0) = true := decide_eq_true hk
  clear hk
  go_enter Try.func4, Try.ntmps4
  go_wp2_with fail
  refine (awake_any _).mono ?_
  rintro _ w1 ⟨rfl, z⟩
  have BX := Lib.hid ((Bx.mk w W D J S 23).below z)
  replace z := (box_below w _).trans (z.mono (by simp))
  have Z := Lib.hid z
  have LM := Lib.hid (LM0.out.below z)
  clear z LM0
  obtain ⟨gx, x_0, x_1, x_2, x_3⟩ := BX.out
  go_wp2_with fail
  refine (begin_any 7 0 0 _).mono ?_
  rintro _ w2 ⟨rfl, z⟩
  clear gx x_0 x_1 x_2 x_3
  replace Z := Lib.hid (Z.out.trans (z.mono Z.out.size))
  replace BX := Lib.hid (BX.out.below z)
  replace LM := Lib.hid (LM.out.below z)
  clear z
  obtain ⟨gx, x_0, x_1, x_2, x_3⟩ := BX.out
  go_wp2_with fail
  refine (Tells.of (ngoes_any W D J S A n c m (fbg 7 0 0) _ HN.out) (v' := .bool true) (by rw [goesN_begun (by simp), HO.out])).mono ?_
  rintro _ w3 ⟨rfl, z⟩
  clear gx x_0 x_1 x_2 x_3
  have BF := Lib.hid ((Bf.new w2 (fbg 7 0 0)).after z)
  replace z := keep_call z (bel_alloc w2 _)
  replace Z := Lib.hid (Z.out.trans (z.mono Z.out.size))
  replace BX := Lib.hid (BX.out.below z)
  replace LM := Lib.hid (LM.out.below z)
  clear z
  obtain ⟨gx, x_0, x_1, x_2, x_3⟩ := BX.out
  go_wp2
  go_ret
  exact ⟨rfl, Z.out⟩
theorem btw_far7 (W D J S k : Int) (A : Option Addr) (n c : Nat) (m : List Int) (w : World) (hm : Rd w A m) (hn : m.length = n) (hs : n ≤ 500) (ho : okm W D J S m = true) (h0 : 0 ≤ k) (hk : W ≤ k) : Tells 4 #[cf W D J S, .slice A n c, .bool true, .int .i64 k] w (.bool true) := by
  have LM0 := Lib.hid hm
  have HN := Lib.hid hn
  clear hm hn
  have hd : decide ((500 : Int) < (n : Int)) = false := decide_eq_false (by omega)
  have HO := Lib.hid ho
  clear ho
  have hd1 : decide (k < 0) = false := decide_eq_false (by omega)
  have hd2 : decide (W ≤ k) = true := decide_eq_true hk
  clear h0 hk
  go_enter Try.func4, Try.ntmps4
  go_wp2_with fail
  refine (awake_any _).mono ?_
  rintro _ w1 ⟨rfl, z⟩
  have BX := Lib.hid ((Bx.mk w W D J S 23).below z)
  replace z := (box_below w _).trans (z.mono (by simp))
  have Z := Lib.hid z
  have LM := Lib.hid (LM0.out.below z)
  clear z LM0
  obtain ⟨gx, x_0, x_1, x_2, x_3⟩ := BX.out
  go_wp2_with fail
  refine (begin_any 7 0 0 _).mono ?_
  rintro _ w2 ⟨rfl, z⟩
  clear gx x_0 x_1 x_2 x_3
  replace Z := Lib.hid (Z.out.trans (z.mono Z.out.size))
  replace BX := Lib.hid (BX.out.below z)
  replace LM := Lib.hid (LM.out.below z)
  clear z
  obtain ⟨gx, x_0, x_1, x_2, x_3⟩ := BX.out
  go_wp2_with fail
  refine (Tells.of (ngoes_any W D J S A n c m (fbg 7 0 0) _ HN.out) (v' := .bool true) (by rw [goesN_begun (by simp), HO.out])).mono ?_
  rintro _ w3 ⟨rfl, z⟩
  clear gx x_0 x_1 x_2 x_3
  have BF := Lib.hid ((Bf.new w2 (fbg 7 0 0)).after z)
  replace z := keep_call z (bel_alloc w2 _)
  replace Z := Lib.hid (Z.out.trans (z.mono Z.out.size))
  replace BX := Lib.hid (BX.out.below z)
  replace LM := Lib.hid (LM.out.below z)
  clear z
  obtain ⟨gx, x_0, x_1, x_2, x_3⟩ := BX.out
  go_wp2
  go_ret
  exact ⟨rfl, Z.out⟩
set_option maxHeartbeats 2000000 in
theorem btw_main7 (W D J S k : Int) (A : Option Addr) (n c : Nat) (m : List Int) (w : World) (hm : Rd w A m) (hn : m.length = n) (hs : n ≤ 500) (hu : UM m) (hk : okw W D J S m k = true) : Tells 4 #[cf W D J S, .slice A n c, .bool true, .int .i64 k] w (.bool true) := by
  have ho := okm_of hk
  obtain ⟨E, hE⟩ : ∃ E, at0 m 2 = E := ⟨_, rfl⟩
  have hue : U E := by rw [← hE]; exact at0_U hu 2
  obtain ⟨l', f', i20, hres, hev, _⟩ := alone_20 (o := 7) ho (by simp)
  have e1 := waitS_0 (v := 0) (x := 0) (y := 0) hk
  rw [hE] at e1 hev
  have hl' := noteN_len W D J S 20 (m, fbg 7 0 0)
  have hul := noteN_U (W := W) (D := D) (J := J) (S := S) (s := (m, fbg 7 0 0)) hu ⟨U0, U0, U0⟩ 20
  rw [i20] at hl' hul
  have k2 : okw W D J S l' k = true := by rw [okw_len (m := m) hl']; exact hk
  have e2 := waitS_1 (v := 0) (x := E) (y := 0) k2
  rw [if_neg (by rw [hev, nxN_epoch]; unfold U at hue; omega)] at e2
  have hov : (f'.res != 0) = true := by rw [hres]; split <;> rfl
  have hn2 : l'.length = n := hl'.trans hn
  have hkW := okw_iff.1 hk
  have hd1 : decide (k < 0) = false := decide_eq_false (by omega)
  have hd2 : decide (W ≤ k) = false := decide_eq_false (by omega)
  have LM0 := Lib.hid hm
  have HN := Lib.hid hn
  clear hm hn
  have hd : decide ((500 : Int) < (n : Int)) = false := decide_eq_false (by omega)
  have HO := Lib.hid ho
  have HS := Lib.hid hs
  have HUE := Lib.hid hue
  have HI := Lib.hid i20
  have HE1 := Lib.hid e1
  have HE2 := Lib.hid e2
  have HU := Lib.hid hu
  have HOV := Lib.hid hov
  have HN2 := Lib.hid hn2
  clear hk hE hres hev hul hl' k2 hkW ho hs hue i20 e1 e2 hu hov hn2
  go_enter Try.func4, Try.ntmps4
  go_wp2_with fail
  refine (awake_any _).mono ?_
  rintro _ w1 ⟨rfl, z⟩
  have BX := Lib.hid ((Bx.mk w W D J S 23).below z)
  replace z := (box_below w _).trans (z.mono (by simp))
  have Z := Lib.hid z
  have LM := Lib.hid (LM0.out.below z)
  clear z LM0
  obtain ⟨gx, x_0, x_1, x_2, x_3⟩ := BX.out
  go_wp2_with fail
  refine (begin_any 7 0 0 _).mono ?_
  rintro _ w2 ⟨rfl, z⟩
  clear gx x_0 x_1 x_2 x_3
  replace Z := Lib.hid (Z.out.trans (z.mono Z.out.size))
  replace BX := Lib.hid (BX.out.below z)
  replace LM := Lib.hid (LM.out.below z)
  clear z
  have HWF0 := Lib.hid BX.out.1
  obtain ⟨gx, x_0, x_1, x_2, x_3⟩ := BX.out
  go_wp2_with fail
  refine (Tells.of (ngoes_any W D J S A n c m (fbg 7 0 0) _ HN.out) (v' := .bool true) (by rw [goesN_begun (by simp), HO.out])).mono ?_
  rintro _ w3 ⟨rfl, z⟩
  clear gx x_0 x_1 x_2 x_3
  have BF := Lib.hid ((Bf.new w2 (fbg 7 0 0)).after z)
  replace z := keep_call z (bel_alloc w2 _)
  replace Z := Lib.hid (Z.out.trans (z.mono Z.out.size))
  replace BX := Lib.hid (BX.out.below z)
  replace LM := Lib.hid (LM.out.below z)
  clear z
  obtain ⟨gx, x_0, x_1, x_2, x_3⟩ := BX.out
  have HWF := Lib.hid (show w.heap.size < w2.heap.size from HWF0.out)
  go_upto_region 8 with fail
  have HGX := Lib.hid BX.out.1
  have HGF := Lib.hid BF.out.lt
  go_cut [12, 13] from 45 to 52 (fun x t wz => Hid (Cu w3 n m ⟨5, 1, k, 0, E, 0, 0⟩ x t wz))
  case first =>
    have HKc := Lib.hid (show ∀ x', Below w3.heap.size w3 x' → (fun w' => w'.cell? ⟨w.heap.size, 0, none⟩ = some (.int .i64 W) ∧ w'.cell? ⟨w.heap.size, 1, none⟩ = some (.int .i64 D) ∧ w'.cell? ⟨w.heap.size, 2, none⟩ = some (.int .i64 J) ∧ w'.cell? ⟨w.heap.size, 3, none⟩ = some (.int .i64 S) ∧ Below w3.heap.size w3 w') x' from fun x' hx => by
      obtain ⟨_, e0, e1, e2, e3⟩ := BX.out.below hx
      exact ⟨e0, e1, e2, e3, hx⟩)
    have hHeld0 := HKc.out _ (Below.refl _ _)
    have ZC := Lib.hid (Below.refl w3.heap.size w3).drew
    clear gx x_0 x_1 x_2 x_3
    refine wp_region_held_drew (S := fun w' => w'.cell? ⟨w.heap.size, 0, none⟩ = some (.int .i64 W) ∧ w'.cell? ⟨w.heap.size, 1, none⟩ = some (.int .i64 D) ∧ w'.cell? ⟨w.heap.size, 2, none⟩ = some (.int .i64 J) ∧ w'.cell? ⟨w.heap.size, 3, none⟩ = some (.int .i64 S) ∧ Below w3.heap.size w3 w') (by kernel_rfl) (hd_drew HKc.out (fun _ h => h.2.2.2.2) hHeld0) (fun hHeld => ?_)
    refine wpAnyH_take (i := 0) (oi := { dst := some 44, op := Go.Op.load 23 (Go.Operand.tmp 4), type := 23, pos := "law.go:87", after := #[], guard := none }) (v := ?vqc1) rfl (by kernel_rfl) (by kernel_rfl) (by kernel_rfl) (fun _ _ _ h => h) (Or.inl ⟨by rfl, ?yqc1⟩) (by assumption) ?rqc1
    case yqc1 => (intro w hSw; (try dsimp only at hSw); go_simp; (try with_reducible rfl))
    (try simp only [Act.put, List.setIfInBounds_toArray, List.set_cons_zero, List.set_cons_succ])
    refine wpAnyH_take (i := 1) (oi := { dst := some 45, op := Go.Op.move (Go.Operand.tmp 1), type := 25, pos := "law.go:87", after := #[], guard := none }) (v := ?vqc2) rfl (by kernel_rfl) (by kernel_rfl) (by kernel_rfl) (fun _ _ _ h => h) (Or.inl ⟨by rfl, ?yqc2⟩) (by assumption) ?rqc2
    case yqc2 => (intro w hSw; (try dsimp only at hSw); go_simp; (try with_reducible rfl))
    (try simp only [Act.put, List.setIfInBounds_toArray, List.set_cons_zero, List.set_cons_succ])
    refine wpAnyH_take (i := 2) (oi := { dst := some 46, op := Go.Op.move (Go.Operand.tmp 3), type := 3, pos := "law.go:87", after := #[], guard := none }) (v := ?vqc3) rfl (by kernel_rfl) (by kernel_rfl) (by kernel_rfl) (fun _ _ _ h => h) (Or.inl ⟨by rfl, ?yqc3⟩) (by assumption) ?rqc3
    case yqc3 => (intro w hSw; (try dsimp only at hSw); go_simp; (try with_reducible rfl))
    (try simp only [Act.put, List.setIfInBounds_toArray, List.set_cons_zero, List.set_cons_succ])
    refine wpAnyH_ready (rs := [3, 8]) (by kernel_rfl) (by simp) ?_
    refine (AllReadyH.cons (o := { dst := some 47, op := Go.Op.call { callee := Go.Callee.value (Go.Operand.func 9), args := #[Go.Operand.const (Go.Value.int Go.IntKind.i64 5), Go.Operand.tmp 46, Go.Operand.const (Go.Value.int Go.IntKind.u64 0)], argTypes := #[3, 3, 27] }, type := 29, pos := "law.go:87", after := #[{ on := 2, ground := Go.Ground.data }], guard := none }) rfl (fun K hK => ?_) (AllReadyH.cons (o := { dst := some 13, op := Go.Op.alloc 29, type := 0, pos := "law.go:87", after := #[], guard := none }) rfl (fun K hK => ?_) AllReadyH.nil))
    · go_simp
      refine (begin_any 5 k 0 _).mono ?_
      rintro e wa ⟨rfl, zb⟩
      go_wp2_with fail
      replace ZC := Lib.hid (keep_call zb ZC.out)
      clear zb
      refine hK.out _ _ (HKc.out _ ZC.out) (fun hHeld2 => ?_)
      clear hK K hHeld
      have hHeld := hHeld2
      clear hHeld2
      (try simp only [Act.put, List.setIfInBounds_toArray, List.set_cons_zero, List.set_cons_succ])
      refine wpAnyH_ready (rs := [4, 8]) (by kernel_rfl) (by simp) ?_
      refine (AllReadyH.cons (o := { dst := some 48, op := Go.Op.call { callee := Go.Callee.value (Go.Operand.func 20), args := #[Go.Operand.tmp 44, Go.Operand.tmp 45, Go.Operand.tmp 47], argTypes := #[23, 25, 29] }, type := 36, pos := "law.go:87", after := #[{ on := 0, ground := Go.Ground.data }, { on := 1, ground := Go.Ground.data }, { on := 3, ground := Go.Ground.data }, { on := 3, ground := Go.Ground.chain }], guard := none }) rfl (fun K hK => ?_) (AllReadyH.cons (o := { dst := some 13, op := Go.Op.alloc 29, type := 0, pos := "law.go:87", after := #[], guard := none }) rfl (fun K hK => ?_) AllReadyH.nil))
      · go_simp
        refine (wait_n (f := fbg 5 k 0) (LM.out.below ZC.out) HN.out HS.out ⟨U0, U0, U0⟩ HE1.out).mono ?_
        rintro e wo ⟨A9, c9, rfl, hn9, zb⟩
        go_wp2_with fail
        have HN9 := Lib.hid hn9
        clear hn9
        replace ZC := Lib.hid (keep_call zb ZC.out)
        clear zb
        refine hK.out _ _ (HKc.out _ ZC.out) (fun hHeld2 => ?_)
        clear hK K hHeld
        have hHeld := hHeld2
        clear hHeld2
        (try simp only [Act.put, List.setIfInBounds_toArray, List.set_cons_zero, List.set_cons_succ])
        refine wpAnyH_take (i := 5) (oi := { dst := some 43, op := Go.Op.move (Go.Operand.tmp 48), type := 36, pos := "law.go:87", after := #[{ on := 4, ground := Go.Ground.data }], guard := none }) (v := ?vqc4) rfl (by kernel_rfl) (by kernel_rfl) (by kernel_rfl) (fun _ _ _ h => h) (Or.inl ⟨by rfl, ?yqc4⟩) (by assumption) ?rqc4
        case yqc4 => (intro w hSw; (try dsimp only at hSw); go_simp; (try with_reducible rfl))
        (try simp only [Act.put, List.setIfInBounds_toArray, List.set_cons_zero, List.set_cons_succ])
        refine wpAnyH_take (i := 6) (oi := { dst := some 49, op := Go.Op.extract (Go.Operand.tmp 43) 0, type := 25, pos := "law.go:87", after := #[{ on := 5, ground := Go.Ground.data }], guard := none }) (v := ?vqc5) rfl (by kernel_rfl) (by kernel_rfl) (by kernel_rfl) (fun _ _ _ h => h) (Or.inl ⟨by rfl, ?yqc5⟩) (by assumption) ?rqc5
        case yqc5 => (intro w hSw; (try dsimp only at hSw); go_simp; (try with_reducible rfl))
        (try simp only [Act.put, List.setIfInBounds_toArray, List.set_cons_zero, List.set_cons_succ])
        refine wpAnyH_take (i := 7) (oi := { dst := some 50, op := Go.Op.extract (Go.Operand.tmp 43) 1, type := 29, pos := "law.go:87", after := #[{ on := 5, ground := Go.Ground.data }, { on := 9, ground := Go.Ground.gcOnly Go.Departure.lateStores }], guard := none }) (v := ?vqc6) rfl (by kernel_rfl) (by kernel_rfl) (by kernel_rfl) (fun _ _ _ h => h) (Or.inl ⟨by rfl, ?yqc6⟩) (by assumption) ?rqc6
        case yqc6 => (intro w hSw; (try dsimp only at hSw); go_simp; (try with_reducible rfl))
        (try simp only [Act.put, List.setIfInBounds_toArray, List.set_cons_zero, List.set_cons_succ])
        refine wpAnyH_ready (rs := [8]) (by kernel_rfl) (by simp) ?_
        refine (AllReadyH.cons (o := { dst := some 13, op := Go.Op.alloc 29, type := 0, pos := "law.go:87", after := #[], guard := none }) rfl (fun K hK => ?_) AllReadyH.nil)
        go_simp
        have HGS := Lib.hid (show w3.heap.size ≤ wo.heap.size from ZC.out.size)
        have ZO := ZC
        have EO := Lib.hid (show Bf (wo.alloc (.cells #[.int .i64 0, .int .i64 0, .int .i64 0, .int .u64 0, .int .u64 0, .int .u64 0, .int .i64 0] 29)) wo.heap.size f0 from Bf.new wo f0)
        replace ZC := Lib.hid (ZO.out.alloc ZO.out.size (.cells #[.int .i64 0, .int .i64 0, .int .i64 0, .int .u64 0, .int .u64 0, .int .u64 0, .int .i64 0] 29))
        refine hK.out _ _ (HKc.out _ ZC.out) (fun hHeld2 => ?_)
        clear hK K hHeld
        have hHeld := hHeld2
        clear hHeld2
        (try simp only [Act.put, List.setIfInBounds_toArray, List.set_cons_zero, List.set_cons_succ])
        refine wpAnyH_take (i := 9) (oi := { dst := some 12, op := Go.Op.assign (Go.Operand.tmp 49), type := 25, pos := "law.go:87", after := #[{ on := 6, ground := Go.Ground.data }, { on := 4, ground := Go.Ground.chain }, { on := 0, ground := Go.Ground.phase }, { on := 1, ground := Go.Ground.phase }, { on := 2, ground := Go.Ground.phase }, { on := 3, ground := Go.Ground.phase }, { on := 4, ground := Go.Ground.phase }, { on := 5, ground := Go.Ground.phase }, { on := 6, ground := Go.Ground.phase }, { on := 7, ground := Go.Ground.textOnly Go.Departure.lateStores }, { on := 8, ground := Go.Ground.phase }], guard := none }) (v := ?vqc7) rfl (by kernel_rfl) (by kernel_rfl) (by kernel_rfl) (fun _ _ _ h => h) (Or.inl ⟨by rfl, ?yqc7⟩) (by assumption) ?rqc7
        case yqc7 => (intro w hSw; (try dsimp only at hSw); go_simp; (try with_reducible rfl))
        (try simp only [Act.put, List.setIfInBounds_toArray, List.set_cons_zero, List.set_cons_succ])
        refine wpAnyH_ready (rs := [10]) (by kernel_rfl) (by simp) ?_
        refine (AllReadyH.cons (o := { dst := none, op := Go.Op.store 29 (Go.Operand.tmp 13) (Go.Operand.tmp 50), type := 0, pos := "law.go:87", after := #[{ on := 8, ground := Go.Ground.data }, { on := 7, ground := Go.Ground.data }, { on := 9, ground := Go.Ground.chain }, { on := 0, ground := Go.Ground.phase }, { on := 1, ground := Go.Ground.phase }, { on := 2, ground := Go.Ground.phase }, { on := 3, ground := Go.Ground.phase }, { on := 4, ground := Go.Ground.phase }, { on := 5, ground := Go.Ground.phase }, { on := 6, ground := Go.Ground.phase }, { on := 7, ground := Go.Ground.phase }, { on := 8, ground := Go.Ground.phase }, { on := 9, ground := Go.Ground.phase }], guard := none }) rfl (fun K hK => ?_) AllReadyH.nil)
        go_simp
        refine hK.out _ _ (HKc.out _ (ZO.out.alloc ZO.out.size _)) (fun hHeld2 => ?_)
        clear hK K hHeld
        have hHeld := hHeld2
        clear hHeld2
        (try simp only [Act.put, List.setIfInBounds_toArray, List.set_cons_zero, List.set_cons_succ])
        refine wpAnyH_done (by kernel_rfl) ?_ _
        go_wp2_with fail
        go_meet
        exact Lib.hid (Cu.last ⟨5, 1, k, 0, E, 0, 0⟩ HN9.out ZO.out)
      · go_simp
        have HGS := Lib.hid (show w3.heap.size ≤ wa.heap.size from ZC.out.size)
        have ZO := ZC
        have EO := Lib.hid (show Bf (wa.alloc (.cells #[.int .i64 0, .int .i64 0, .int .i64 0, .int .u64 0, .int .u64 0, .int .u64 0, .int .i64 0] 29)) wa.heap.size f0 from Bf.new wa f0)
        replace ZC := Lib.hid (ZO.out.alloc ZO.out.size (.cells #[.int .i64 0, .int .i64 0, .int .i64 0, .int .u64 0, .int .u64 0, .int .u64 0, .int .i64 0] 29))
        refine hK.out _ _ (HKc.out _ ZC.out) (fun hHeld2 => ?_)
        clear hK K hHeld
        have hHeld := hHeld2
        clear hHeld2
        (try simp only [Act.put, List.setIfInBounds_toArray, List.set_cons_zero, List.set_cons_succ])
        refine wpAnyH_ready (rs := [4]) (by kernel_rfl) (by simp) ?_
        refine (AllReadyH.cons (o := { dst := some 48, op := Go.Op.call { callee := Go.Callee.value (Go.Operand.func 20), args := #[Go.Operand.tmp 44, Go.Operand.tmp 45, Go.Operand.tmp 47], argTypes := #[23, 25, 29] }, type := 36, pos := "law.go:87", after := #[{ on := 0, ground := Go.Ground.data }, { on := 1, ground := Go.Ground.data }, { on := 3, ground := Go.Ground.data }, { on := 3, ground := Go.Ground.chain }], guard := none }) rfl (fun K hK => ?_) AllReadyH.nil)
        go_simp
        refine (wait_n (f := fbg 5 k 0) (LM.out.below ZC.out) HN.out HS.out ⟨U0, U0, U0⟩ HE1.out).mono ?_
        rintro e wo ⟨A9, c9, rfl, hn9, zb⟩
        go_wp2_with fail
        have HN9 := Lib.hid hn9
        clear hn9
        have HLT := Lib.hid EO.out.lt
        replace ZC := Lib.hid (keep_call zb ZC.out)
        replace EO := Lib.hid (EO.out.after zb)
        obtain ⟨d0, d1, d2, d3, d4, d5, d6⟩ := EO.out.cells
        have fz := EO.out.free
        have ld := EO.out.lt
        clear zb
        refine hK.out _ _ (HKc.out _ ZC.out) (fun hHeld2 => ?_)
        clear hK K hHeld
        have hHeld := hHeld2
        clear hHeld2
        (try simp only [Act.put, List.setIfInBounds_toArray, List.set_cons_zero, List.set_cons_succ])
        refine wpAnyH_take (i := 5) (oi := { dst := some 43, op := Go.Op.move (Go.Operand.tmp 48), type := 36, pos := "law.go:87", after := #[{ on := 4, ground := Go.Ground.data }], guard := none }) (v := ?vqc8) rfl (by kernel_rfl) (by kernel_rfl) (by kernel_rfl) (fun _ _ _ h => h) (Or.inl ⟨by rfl, ?yqc8⟩) (by assumption) ?rqc8
        case yqc8 => (intro w hSw; (try dsimp only at hSw); go_simp; (try with_reducible rfl))
        (try simp only [Act.put, List.setIfInBounds_toArray, List.set_cons_zero, List.set_cons_succ])
        refine wpAnyH_take (i := 6) (oi := { dst := some 49, op := Go.Op.extract (Go.Operand.tmp 43) 0, type := 25, pos := "law.go:87", after := #[{ on := 5, ground := Go.Ground.data }], guard := none }) (v := ?vqc9) rfl (by kernel_rfl) (by kernel_rfl) (by kernel_rfl) (fun _ _ _ h => h) (Or.inl ⟨by rfl, ?yqc9⟩) (by assumption) ?rqc9
        case yqc9 => (intro w hSw; (try dsimp only at hSw); go_simp; (try with_reducible rfl))
        (try simp only [Act.put, List.setIfInBounds_toArray, List.set_cons_zero, List.set_cons_succ])
        refine wpAnyH_take (i := 7) (oi := { dst := some 50, op := Go.Op.extract (Go.Operand.tmp 43) 1, type := 29, pos := "law.go:87", after := #[{ on := 5, ground := Go.Ground.data }, { on := 9, ground := Go.Ground.gcOnly Go.Departure.lateStores }], guard := none }) (v := ?vqc10) rfl (by kernel_rfl) (by kernel_rfl) (by kernel_rfl) (fun _ _ _ h => h) (Or.inl ⟨by rfl, ?yqc10⟩) (by assumption) ?rqc10
        case yqc10 => (intro w hSw; (try dsimp only at hSw); go_simp; (try with_reducible rfl))
        (try simp only [Act.put, List.setIfInBounds_toArray, List.set_cons_zero, List.set_cons_succ])
        refine wpAnyH_take (i := 9) (oi := { dst := some 12, op := Go.Op.assign (Go.Operand.tmp 49), type := 25, pos := "law.go:87", after := #[{ on := 6, ground := Go.Ground.data }, { on := 4, ground := Go.Ground.chain }, { on := 0, ground := Go.Ground.phase }, { on := 1, ground := Go.Ground.phase }, { on := 2, ground := Go.Ground.phase }, { on := 3, ground := Go.Ground.phase }, { on := 4, ground := Go.Ground.phase }, { on := 5, ground := Go.Ground.phase }, { on := 6, ground := Go.Ground.phase }, { on := 7, ground := Go.Ground.textOnly Go.Departure.lateStores }, { on := 8, ground := Go.Ground.phase }], guard := none }) (v := ?vqc11) rfl (by kernel_rfl) (by kernel_rfl) (by kernel_rfl) (fun _ _ _ h => h) (Or.inl ⟨by rfl, ?yqc11⟩) (by assumption) ?rqc11
        case yqc11 => (intro w hSw; (try dsimp only at hSw); go_simp; (try with_reducible rfl))
        (try simp only [Act.put, List.setIfInBounds_toArray, List.set_cons_zero, List.set_cons_succ])
        refine wpAnyH_ready (rs := [10]) (by kernel_rfl) (by simp) ?_
        refine (AllReadyH.cons (o := { dst := none, op := Go.Op.store 29 (Go.Operand.tmp 13) (Go.Operand.tmp 50), type := 0, pos := "law.go:87", after := #[{ on := 8, ground := Go.Ground.data }, { on := 7, ground := Go.Ground.data }, { on := 9, ground := Go.Ground.chain }, { on := 0, ground := Go.Ground.phase }, { on := 1, ground := Go.Ground.phase }, { on := 2, ground := Go.Ground.phase }, { on := 3, ground := Go.Ground.phase }, { on := 4, ground := Go.Ground.phase }, { on := 5, ground := Go.Ground.phase }, { on := 6, ground := Go.Ground.phase }, { on := 7, ground := Go.Ground.phase }, { on := 8, ground := Go.Ground.phase }, { on := 9, ground := Go.Ground.phase }], guard := none }) rfl (fun K hK => ?_) AllReadyH.nil)
        go_simp
        refine hK.out _ _ (hd_set7g HKc.out HGS.out _ _ _ _ _ _ _ ZC.out) (fun hHeld2 => ?_)
        clear hK K hHeld
        have hHeld := hHeld2
        clear hHeld2
        (try simp only [Act.put, List.setIfInBounds_toArray, List.set_cons_zero, List.set_cons_succ])
        refine wpAnyH_done (by kernel_rfl) ?_ _
        go_wp2_with fail
        go_meet
        exact Lib.hid (Cu.box ⟨5, 1, k, 0, E, 0, 0⟩ EO.out HGS.out HN9.out HLT.out ZC.out)
    · go_simp
      have HGS := Lib.hid (show w3.heap.size ≤ w3.heap.size from ZC.out.size)
      have ZO := ZC
      have EO := Lib.hid (show Bf (w3.drew.alloc (.cells #[.int .i64 0, .int .i64 0, .int .i64 0, .int .u64 0, .int .u64 0, .int .u64 0, .int .i64 0] 29)) w3.heap.size f0 from Bf.new w3.drew f0)
      replace ZC := Lib.hid (ZO.out.alloc ZO.out.size (.cells #[.int .i64 0, .int .i64 0, .int .i64 0, .int .u64 0, .int .u64 0, .int .u64 0, .int .i64 0] 29))
      refine hK.out _ _ (HKc.out _ ZC.out) (fun hHeld2 => ?_)
      clear hK K hHeld
      have hHeld := hHeld2
      clear hHeld2
      (try simp only [Act.put, List.setIfInBounds_toArray, List.set_cons_zero, List.set_cons_succ])
      refine wpAnyH_ready (rs := [3]) (by kernel_rfl) (by simp) ?_
      refine (AllReadyH.cons (o := { dst := some 47, op := Go.Op.call { callee := Go.Callee.value (Go.Operand.func 9), args := #[Go.Operand.const (Go.Value.int Go.IntKind.i64 5), Go.Operand.tmp 46, Go.Operand.const (Go.Value.int Go.IntKind.u64 0)], argTypes := #[3, 3, 27] }, type := 29, pos := "law.go:87", after := #[{ on := 2, ground := Go.Ground.data }], guard := none }) rfl (fun K hK => ?_) AllReadyH.nil)
      go_simp
      refine (begin_any 5 k 0 _).mono ?_
      rintro e wa ⟨rfl, zb⟩
      go_wp2_with fail
      replace ZC := Lib.hid (keep_call zb ZC.out)
      replace EO := Lib.hid (EO.out.after zb)
      clear zb
      refine hK.out _ _ (HKc.out _ ZC.out) (fun hHeld2 => ?_)
      clear hK K hHeld
      have hHeld := hHeld2
      clear hHeld2
      (try simp only [Act.put, List.setIfInBounds_toArray, List.set_cons_zero, List.set_cons_succ])
      refine wpAnyH_ready (rs := [4]) (by kernel_rfl) (by simp) ?_
      refine (AllReadyH.cons (o := { dst := some 48, op := Go.Op.call { callee := Go.Callee.value (Go.Operand.func 20), args := #[Go.Operand.tmp 44, Go.Operand.tmp 45, Go.Operand.tmp 47], argTypes := #[23, 25, 29] }, type := 36, pos := "law.go:87", after := #[{ on := 0, ground := Go.Ground.data }, { on := 1, ground := Go.Ground.data }, { on := 3, ground := Go.Ground.data }, { on := 3, ground := Go.Ground.chain }], guard := none }) rfl (fun K hK => ?_) AllReadyH.nil)
      go_simp
      refine (wait_n (f := fbg 5 k 0) (LM.out.below ZC.out) HN.out HS.out ⟨U0, U0, U0⟩ HE1.out).mono ?_
      rintro e wo ⟨A9, c9, rfl, hn9, zb⟩
      go_wp2_with fail
      have HN9 := Lib.hid hn9
      clear hn9
      have HLT := Lib.hid EO.out.lt
      replace ZC := Lib.hid (keep_call zb ZC.out)
      replace EO := Lib.hid (EO.out.after zb)
      obtain ⟨d0, d1, d2, d3, d4, d5, d6⟩ := EO.out.cells
      have fz := EO.out.free
      have ld := EO.out.lt
      clear zb
      refine hK.out _ _ (HKc.out _ ZC.out) (fun hHeld2 => ?_)
      clear hK K hHeld
      have hHeld := hHeld2
      clear hHeld2
      (try simp only [Act.put, List.setIfInBounds_toArray, List.set_cons_zero, List.set_cons_succ])
      refine wpAnyH_take (i := 5) (oi := { dst := some 43, op := Go.Op.move (Go.Operand.tmp 48), type := 36, pos := "law.go:87", after := #[{ on := 4, ground := Go.Ground.data }], guard := none }) (v := ?vqc12) rfl (by kernel_rfl) (by kernel_rfl) (by kernel_rfl) (fun _ _ _ h => h) (Or.inl ⟨by rfl, ?yqc12⟩) (by assumption) ?rqc12
      case yqc12 => (intro w hSw; (try dsimp only at hSw); go_simp; (try with_reducible rfl))
      (try simp only [Act.put, List.setIfInBounds_toArray, List.set_cons_zero, List.set_cons_succ])
      refine wpAnyH_take (i := 6) (oi := { dst := some 49, op := Go.Op.extract (Go.Operand.tmp 43) 0, type := 25, pos := "law.go:87", after := #[{ on := 5, ground := Go.Ground.data }], guard := none }) (v := ?vqc13) rfl (by kernel_rfl) (by kernel_rfl) (by kernel_rfl) (fun _ _ _ h => h) (Or.inl ⟨by rfl, ?yqc13⟩) (by assumption) ?rqc13
      case yqc13 => (intro w hSw; (try dsimp only at hSw); go_simp; (try with_reducible rfl))
      (try simp only [Act.put, List.setIfInBounds_toArray, List.set_cons_zero, List.set_cons_succ])
      refine wpAnyH_take (i := 7) (oi := { dst := some 50, op := Go.Op.extract (Go.Operand.tmp 43) 1, type := 29, pos := "law.go:87", after := #[{ on := 5, ground := Go.Ground.data }, { on := 9, ground := Go.Ground.gcOnly Go.Departure.lateStores }], guard := none }) (v := ?vqc14) rfl (by kernel_rfl) (by kernel_rfl) (by kernel_rfl) (fun _ _ _ h => h) (Or.inl ⟨by rfl, ?yqc14⟩) (by assumption) ?rqc14
      case yqc14 => (intro w hSw; (try dsimp only at hSw); go_simp; (try with_reducible rfl))
      (try simp only [Act.put, List.setIfInBounds_toArray, List.set_cons_zero, List.set_cons_succ])
      refine wpAnyH_take (i := 9) (oi := { dst := some 12, op := Go.Op.assign (Go.Operand.tmp 49), type := 25, pos := "law.go:87", after := #[{ on := 6, ground := Go.Ground.data }, { on := 4, ground := Go.Ground.chain }, { on := 0, ground := Go.Ground.phase }, { on := 1, ground := Go.Ground.phase }, { on := 2, ground := Go.Ground.phase }, { on := 3, ground := Go.Ground.phase }, { on := 4, ground := Go.Ground.phase }, { on := 5, ground := Go.Ground.phase }, { on := 6, ground := Go.Ground.phase }, { on := 7, ground := Go.Ground.textOnly Go.Departure.lateStores }, { on := 8, ground := Go.Ground.phase }], guard := none }) (v := ?vqc15) rfl (by kernel_rfl) (by kernel_rfl) (by kernel_rfl) (fun _ _ _ h => h) (Or.inl ⟨by rfl, ?yqc15⟩) (by assumption) ?rqc15
      case yqc15 => (intro w hSw; (try dsimp only at hSw); go_simp; (try with_reducible rfl))
      (try simp only [Act.put, List.setIfInBounds_toArray, List.set_cons_zero, List.set_cons_succ])
      refine wpAnyH_ready (rs := [10]) (by kernel_rfl) (by simp) ?_
      refine (AllReadyH.cons (o := { dst := none, op := Go.Op.store 29 (Go.Operand.tmp 13) (Go.Operand.tmp 50), type := 0, pos := "law.go:87", after := #[{ on := 8, ground := Go.Ground.data }, { on := 7, ground := Go.Ground.data }, { on := 9, ground := Go.Ground.chain }, { on := 0, ground := Go.Ground.phase }, { on := 1, ground := Go.Ground.phase }, { on := 2, ground := Go.Ground.phase }, { on := 3, ground := Go.Ground.phase }, { on := 4, ground := Go.Ground.phase }, { on := 5, ground := Go.Ground.phase }, { on := 6, ground := Go.Ground.phase }, { on := 7, ground := Go.Ground.phase }, { on := 8, ground := Go.Ground.phase }, { on := 9, ground := Go.Ground.phase }], guard := none }) rfl (fun K hK => ?_) AllReadyH.nil)
      go_simp
      refine hK.out _ _ (hd_set7g HKc.out HGS.out _ _ _ _ _ _ _ ZC.out) (fun hHeld2 => ?_)
      clear hK K hHeld
      have hHeld := hHeld2
      clear hHeld2
      (try simp only [Act.put, List.setIfInBounds_toArray, List.set_cons_zero, List.set_cons_succ])
      refine wpAnyH_done (by kernel_rfl) ?_ _
      go_wp2_with fail
      go_meet
      exact Lib.hid (Cu.box ⟨5, 1, k, 0, E, 0, 0⟩ EO.out HGS.out HN9.out HLT.out ZC.out)
  case rest =>
    clear LM
    obtain ⟨gb, Ag, cg, rfl, rfl, hE, hB, hR, hz⟩ := hcut.out
    replace BX := Lib.hid (BX.out.below hz)
    replace BF := Lib.hid (BF.out.after hz)
    replace Z := Lib.hid (Z.out.trans (hz.mono Z.out.size))
    have BG := Lib.hid hB
    have LN := Lib.hid hR
    have Hgb := Lib.hid hE
    clear hE hB hR hz hcut
    have HNX := Lib.hid (Nat.ne_of_lt (Nat.lt_of_lt_of_le HGX.out Hgb.out))
    have HNF := Lib.hid (Nat.ne_of_lt (Nat.lt_of_lt_of_le HGF.out Hgb.out))
    have HNG := Lib.hid (Nat.ne_of_gt (Nat.lt_of_lt_of_le HGF.out Hgb.out))
    have HLT := Lib.hid BF.out.lt
    have HXF := Lib.hid (show w.heap.size ≠ w2.heap.size from Nat.ne_of_lt HWF.out)
    have HZG := Lib.hid (Nat.le_of_lt HWF.out)
    obtain ⟨gx, x_0, x_1, x_2, x_3⟩ := BX.out
    obtain ⟨a0, a1, a2, a3, a4, a5, a6⟩ := BF.out.cells
    have la := BF.out.lt
    simp only [fbg] at a0 a1 a2 a3 a4 a5 a6
    go_wp2_with fail
    refine (alone_n (f := fbg 7 0 0) LN.out.rd HN.out HS.out HU.out ⟨U0, U0, U0⟩ HI.out).mono ?_
    rintro _ w11 ⟨A11, c11, rfl, hn11, z⟩
    clear gx x_0 x_1 x_2 x_3 a0 a1 a2 a3 a4 a5 a6 la
    replace Z := Lib.hid (Z.out.trans (z.mono Z.out.size))
    replace BX := Lib.hid (BX.out.below z)
    replace BF := Lib.hid (BF.out.after z)
    replace BG := Lib.hid (BG.out.after z)
    have LO := Lib.hid (hn11.rx (lo := 0) (g := w2.heap.size) (Nat.zero_le _) (.inl HLT.out))
    clear hn11 z
    obtain ⟨d0, d1, d2, d3, d4, d5, d6⟩ := BF.out.cells
    have ld := BF.out.lt
    have fz := BF.out.free
    go_upto_region 10 with fail
    change Code.wp _ _ _ _ (pf w11 w2.heap.size f')
    have KB := Lib.hid ((Kb.refl w2.heap.size w11).pf f')
    replace BF := Lib.hid (BF.out.pf f')
    replace Z := Lib.hid (Z.out.trans (KB.out.low.mono HZG.out))
    replace BX := Lib.hid (BX.out.kb KB.out HXF.out)
    replace BG := Lib.hid (BG.out.kb KB.out HNG.out)
    replace LO := Lib.hid (LO.out.kb KB.out)
    clear d0 d1 d2 d3 d4 d5 d6 ld
    generalize pf w11 w2.heap.size f' = w12 at BX BF BG LO Z ⊢
    clear KB fz
    clear HLT HZG
    have HLT := Lib.hid BG.out.lt
    have HZG := Lib.hid (Nat.le_of_lt (Nat.lt_of_lt_of_le HGX.out Hgb.out))
    obtain ⟨gx, x_0, x_1, x_2, x_3⟩ := BX.out
    obtain ⟨d0, d1, d2, d3, d4, d5, d6⟩ := BG.out.cells
    have ld := BG.out.lt
    go_wp2_with fail
    refine (wait_n (f := ⟨5, 1, k, 0, E, 0, 0⟩) LO.out.rd HN2.out HS.out ⟨U0, HUE.out, U0⟩ HE2.out).mono ?_
    rintro _ w13 ⟨A13, c13, rfl, hn13, z⟩
    clear gx x_0 x_1 x_2 x_3 d0 d1 d2 d3 d4 d5 d6 ld
    replace Z := Lib.hid (Z.out.trans (z.mono Z.out.size))
    replace BX := Lib.hid (BX.out.below z)
    replace BF := Lib.hid (BF.out.after z)
    replace BG := Lib.hid (BG.out.after z)
    have LP := Lib.hid (hn13.rx (lo := 0) (g := gb) (Nat.zero_le _) (.inl HLT.out))
    clear hn13 z
    obtain ⟨d0, d1, d2, d3, d4, d5, d6⟩ := BG.out.cells
    have ld := BG.out.lt
    have fz := BG.out.free
    go_upto_region 11 with fail
    change Code.wp _ _ _ _ (pf w13 gb ⟨5, 0, k, 0, 0, 0, 4⟩)
    have KB := Lib.hid ((Kb.refl gb w13).pf ⟨5, 0, k, 0, 0, 0, 4⟩)
    replace BG := Lib.hid (BG.out.pf ⟨5, 0, k, 0, 0, 0, 4⟩)
    replace Z := Lib.hid (Z.out.trans (KB.out.low.mono HZG.out))
    replace BX := Lib.hid (BX.out.kb KB.out HNX.out)
    replace BF := Lib.hid (BF.out.kb KB.out HNF.out)
    replace LP := Lib.hid (LP.out.kb KB.out)
    clear d0 d1 d2 d3 d4 d5 d6 ld
    generalize pf w13 gb ⟨5, 0, k, 0, 0, 0, 4⟩ = w14 at BX BF BG LP Z ⊢
    clear KB fz
    obtain ⟨a0, a1, a2, a3, a4, a5, a6⟩ := BF.out.cells
    have la := BF.out.lt
    obtain ⟨d0, d1, d2, d3, d4, d5, d6⟩ := BG.out.cells
    have ld := BG.out.lt
    go_wp2_with fail
    refine (Tells.of (over_any f' _) (v' := .bool true) (by rw [HOV.out])).mono ?_
    rintro _ w15 ⟨rfl, z⟩
    clear a0 a1 a2 a3 a4 a5 a6 la d0 d1 d2 d3 d4 d5 d6 ld
    replace Z := Lib.hid (Z.out.trans (z.mono Z.out.size))
    replace BX := Lib.hid (BX.out.below z)
    replace BF := Lib.hid (BF.out.after z)
    replace BG := Lib.hid (BG.out.after z)
    replace LP := Lib.hid (LP.out.after z)
    clear z
    obtain ⟨d0, d1, d2, d3, d4, d5, d6⟩ := BG.out.cells
    have ld := BG.out.lt
    go_wp2
    go_ret
    exact ⟨rfl, Z.out⟩
theorem btw_walk (W D J S k : Int) (a : Bool) (A : Option Addr) (n c : Nat) (m : List Int) (w : World) (hm : Rd w A m) (hn : m.length = n) (hu : UM m) : Tells 4 #[cf W D J S, .slice A n c, .bool a, .int .i64 k] w (.bool true) := by
  cases a
  · by_cases hs : n ≤ 500
    · cases ho : okm W D J S m
      · exact btw_no6 W D J S k A n c m w hm hn hs ho
      · by_cases h0 : k < 0
        · exact btw_neg6 W D J S k A n c m w hm hn hs ho h0
        · by_cases h1 : W ≤ k
          · exact btw_far6 W D J S k A n c m w hm hn hs ho (by omega) h1
          · exact btw_main6 W D J S k A n c m w hm hn hs hu (okw_of ho (by omega) (by omega))
    · exact btw_big6 W D J S k A n c m w hm hn (by omega)
  · by_cases hs : n ≤ 500
    · cases ho : okm W D J S m
      · exact btw_no7 W D J S k A n c m w hm hn hs ho
      · by_cases h0 : k < 0
        · exact btw_neg7 W D J S k A n c m w hm hn hs ho h0
        · by_cases h1 : W ≤ k
          · exact btw_far7 W D J S k A n c m w hm hn hs ho (by omega) h1
          · exact btw_main7 W D J S k A n c m w hm hn hs hu (okw_of ho (by omega) (by omega))
    · exact btw_big7 W D J S k A n c m w hm hn (by omega)
end Go.Proofs.Ytjddglandcpfpaa
