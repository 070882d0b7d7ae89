/- The walk of WaitAgain. -/
import Derived.Test.YtpnmgpmmaiinmaaWtF
import Derived.Test.YtpnmgpmmaiinmaaPuL
import Derived.Test.YtpnmgpmmaiinmaaFrH2
import Derived.IntWalk
import Derived.Deep.RegionHeld3
namespace Go.Proofs.Ytpnmgpmmaiinmaa
open Go.RowKit Go.Deep
attribute [local go_sem ↓] eql_fr guard_fr
theorem again_big (W D J S : Int) (A : Option Addr) (n c : Nat) (f : Fr) (e : Int) (w : World) (hn : 500 < n) : Tells 8 #[cf W D J S, .slice A n c, fv f, .int .u64 e] w (.bool true) := by
  obtain ⟨o, p, q, v, x, y, s⟩ := f
  have hd : decide ((500 : Int) < (n : Int)) = true := decide_eq_true (by omega)
  obtain ⟨BX0, BF0, Z0, hz⟩ := boxes2 w W D J S ⟨o, p, q, v, x, y, s⟩
  go_enter Try.func8, Try.ntmps8
  go_wp2_with fail
  change Calls _ _ _ (bxc w W D J S ⟨o, p, q, v, x, y, s⟩) _
  generalize bxc w W D J S ⟨o, p, q, v, x, y, s⟩ = w0 at BX0 BF0 Z0 hz ⊢
  refine (awake_any _).mono ?_
  rintro _ w1 ⟨rfl, z⟩
  have Z := Lib.hid (Z0.trans (z.mono (by omega)))
  have BX := Lib.hid (BX0.below z)
  have BF := Lib.hid (BF0.after z)
  have HZ0 := Lib.hid (show w.heap.size ≤ w0.heap.size by omega)
  clear z Z0 BX0 BF0 hz HZ0
  obtain ⟨gx, x_0, x_1, x_2, x_3⟩ := BX.out
  obtain ⟨a0, a1, a2, a3, a4, a5, a6⟩ := BF.out.cells
  have la := BF.out.lt
  simp only at a0 a1 a2 a3 a4 a5 a6
  go_wp2
  go_ret
  exact ⟨rfl, Z.out⟩
theorem again_pc (W D J S : Int) (A : Option Addr) (n c : Nat) (f : Fr) (e : Int) (w : World) (hn : n ≤ 500) (hp : f.pc ≠ 2) : Tells 8 #[cf W D J S, .slice A n c, fv f, .int .u64 e] w (.bool true) := by
  obtain ⟨o, p, q, v, x, y, s⟩ := f
  have hd : decide ((500 : Int) < (n : Int)) = false := decide_eq_false (by omega)
  simp only at hp
  have hp2 : (p != 2) = true := by simpa using hp
  clear hp
  obtain ⟨BX0, BF0, Z0, hz⟩ := boxes2 w W D J S ⟨o, p, q, v, x, y, s⟩
  go_enter Try.func8, Try.ntmps8
  go_wp2_with fail
  change Calls _ _ _ (bxc w W D J S ⟨o, p, q, v, x, y, s⟩) _
  generalize bxc w W D J S ⟨o, p, q, v, x, y, s⟩ = w0 at BX0 BF0 Z0 hz ⊢
  refine (awake_any _).mono ?_
  rintro _ w1 ⟨rfl, z⟩
  have Z := Lib.hid (Z0.trans (z.mono (by omega)))
  have BX := Lib.hid (BX0.below z)
  have BF := Lib.hid (BF0.after z)
  have HZ0 := Lib.hid (show w.heap.size ≤ w0.heap.size by omega)
  clear z Z0 BX0 BF0 hz HZ0
  obtain ⟨gx, x_0, x_1, x_2, x_3⟩ := BX.out
  obtain ⟨a0, a1, a2, a3, a4, a5, a6⟩ := BF.out.cells
  have la := BF.out.lt
  simp only at a0 a1 a2 a3 a4 a5 a6
  go_wp2
  go_ret
  exact ⟨rfl, Z.out⟩
theorem again_no (W D J S : Int) (A : Option Addr) (n c : Nat) (m : List Int) (f : Fr) (e : Int) (w : World) (hn : m.length = n) (hs : n ≤ 500) (hp : f.pc = 2) (hg : goes W D J S m f 5 5 = false) : Tells 8 #[cf W D J S, .slice A n c, fv f, .int .u64 e] w (.bool true) := by
  obtain ⟨o, p, q, v, x, y, s⟩ := f
  have hd : decide ((500 : Int) < (n : Int)) = false := decide_eq_false (by omega)
  simp only at hp
  subst hp
  have HN := Lib.hid hn
  have HG := Lib.hid hg
  clear hn hg
  obtain ⟨BX0, BF0, Z0, hz⟩ := boxes2 w W D J S ⟨o, 2, q, v, x, y, s⟩
  go_enter Try.func8, Try.ntmps8
  go_wp2_with fail
  change Calls _ _ _ (bxc w W D J S ⟨o, 2, q, v, x, y, s⟩) _
  generalize bxc w W D J S ⟨o, 2, q, v, x, y, s⟩ = w0 at BX0 BF0 Z0 hz ⊢
  refine (awake_any _).mono ?_
  rintro _ w1 ⟨rfl, z⟩
  have Z := Lib.hid (Z0.trans (z.mono (by omega)))
  have BX := Lib.hid (BX0.below z)
  have BF := Lib.hid (BF0.after z)
  have HZ0 := Lib.hid (show w.heap.size ≤ w0.heap.size by omega)
  clear z Z0 BX0 BF0 hz HZ0
  obtain ⟨gx, x_0, x_1, x_2, x_3⟩ := BX.out
  obtain ⟨a0, a1, a2, a3, a4, a5, a6⟩ := BF.out.cells
  have la := BF.out.lt
  simp only at a0 a1 a2 a3 a4 a5 a6
  go_wp2_with fail
  refine (Tells.of (goes_any W D J S 5 5 A n c m ⟨o, 2, q, v, x, y, s⟩ _ HN.out) (v' := .bool false) (by rw [HG.out])).mono ?_
  rintro _ w2 ⟨rfl, z⟩
  clear gx x_0 x_1 x_2 x_3 a0 a1 a2 a3 a4 a5 a6 la
  replace Z := Lib.hid (Z.out.trans (z.mono Z.out.size))
  replace BX := Lib.hid (BX.out.below z)
  replace BF := Lib.hid (BF.out.after z)
  clear z
  go_wp2
  go_ret
  exact ⟨rfl, Z.out⟩
theorem again_same (W D J S : Int) (A : Option Addr) (n c : Nat) (m : List Int) (f : Fr) (w : World) (hn : m.length = n) (hs : n ≤ 500) (hp : f.pc = 2) (hg : goes W D J S m f 5 5 = true) : Tells 8 #[cf W D J S, .slice A n c, fv f, .int .u64 f.y] w (.bool true) := by
  obtain ⟨o, p, q, v, x, y, s⟩ := f
  have hd : decide ((500 : Int) < (n : Int)) = false := decide_eq_false (by omega)
  simp only at hp ⊢
  subst hp
  have hyy : (y == y) = true := by simp
  have HN := Lib.hid hn
  have HG := Lib.hid hg
  clear hn hg
  obtain ⟨BX0, BF0, Z0, hz⟩ := boxes2 w W D J S ⟨o, 2, q, v, x, y, s⟩
  go_enter Try.func8, Try.ntmps8
  go_wp2_with fail
  change Calls _ _ _ (bxc w W D J S ⟨o, 2, q, v, x, y, s⟩) _
  generalize bxc w W D J S ⟨o, 2, q, v, x, y, s⟩ = w0 at BX0 BF0 Z0 hz ⊢
  refine (awake_any _).mono ?_
  rintro _ w1 ⟨rfl, z⟩
  have Z := Lib.hid (Z0.trans (z.mono (by omega)))
  have BX := Lib.hid (BX0.below z)
  have BF := Lib.hid (BF0.after z)
  have HZ0 := Lib.hid (show w.heap.size ≤ w0.heap.size by omega)
  clear z Z0 BX0 BF0 hz HZ0
  obtain ⟨gx, x_0, x_1, x_2, x_3⟩ := BX.out
  obtain ⟨a0, a1, a2, a3, a4, a5, a6⟩ := BF.out.cells
  have la := BF.out.lt
  simp only at a0 a1 a2 a3 a4 a5 a6
  go_wp2_with fail
  refine (Tells.of (goes_any W D J S 5 5 A n c m ⟨o, 2, q, v, x, y, s⟩ _ HN.out) (v' := .bool true) (by rw [HG.out])).mono ?_
  rintro _ w2 ⟨rfl, z⟩
  clear gx x_0 x_1 x_2 x_3 a0 a1 a2 a3 a4 a5 a6 la
  replace Z := Lib.hid (Z.out.trans (z.mono Z.out.size))
  replace BX := Lib.hid (BX.out.below z)
  replace BF := Lib.hid (BF.out.after z)
  clear z
  obtain ⟨a0, a1, a2, a3, a4, a5, a6⟩ := BF.out.cells
  have la := BF.out.lt
  simp only at a0 a1 a2 a3 a4 a5 a6
  go_wp2
  go_ret
  exact ⟨rfl, Z.out⟩
set_option maxHeartbeats 2000000 in
theorem again_yes (W D J S : Int) (A : Option Addr) (n c : Nat) (m : List Int) (f : Fr) (e : Int) (w : World) (hm : Rd w A m) (hn : m.length = n) (hs : n ≤ 500) (hf : UF f) (hu : U e) (hp : f.pc = 2) (hg : goes W D J S m f 5 5 = true) (hne : ¬ e = f.y) (hq : e / 65536 = f.x / 65536) : Tells 8 #[cf W D J S, .slice A n c, fv f, .int .u64 e] w (.bool true) := by
  obtain ⟨hk, hr, ho, h0, h4⟩ := goes_iff.1 hg
  have hlong := okw_long hk
  obtain ⟨o, p, q, v, x, y, s⟩ := f
  simp only at hr ho hp hf hk hne hq
  subst hr ho hp
  obtain ⟨m1, hm1⟩ : ∃ m1, m1 = put m 2 e := ⟨_, rfl⟩
  have hk1 : okw W D J S m1 q = true := by rw [hm1]; exact okw_put hk _ _
  have ea : at0 m1 2 = e := by rw [hm1]; exact at0_put _ (by omega) (by omega)
  have e1 := waitS_2 (v := v) (x := x) (y := y) hk1
  rw [ea, if_neg hne] at e1
  have e2 := waitS_1 (v := v) (x := x) (y := y) hk1
  rw [ea, if_pos hq] at e2
  have hn1 : m1.length = n := by rw [hm1, len_put]; exact hn
  have e3 := waitS_2 (v := v) (x := x) (y := e) hk1
  rw [ea, if_pos rfl] at e3
  have hlong1 := okw_long hk1
  obtain ⟨T, hT⟩ : ∃ T, st e q = T := ⟨_, rfl⟩
  rw [hT] at e3
  obtain ⟨m2, hm2⟩ : ∃ m2, m2 = put m1 2 T := ⟨_, rfl⟩
  rw [← hm2] at e3
  have hT2 : at0 m2 2 = T := by rw [hm2]; exact at0_put _ (by omega) (by omega)
  have hn2 : m2.length = n := by rw [hm2, len_put]; exact hn1
  obtain ⟨P, hP⟩ : ∃ P, e / 65536 = P := ⟨_, rfl⟩
  have HP := Lib.hid hP
  have HP2 := Lib.hid (hq.symm.trans hP)
  have hey : (e == y) = false := by simpa using hne
  have hd : decide ((500 : Int) < (n : Int)) = false := decide_eq_false (by omega)
  have HE1 := Lib.hid e1
  have HE2 := Lib.hid e2
  have HE3 := Lib.hid e3
  have HN1 := Lib.hid hn1
  have HM1 := Lib.hid hm1
  have HU := Lib.hid hf
  have HUE := Lib.hid hu
  have HN := Lib.hid hn
  have HS := Lib.hid hs
  have HG := Lib.hid hg
  have LM0 := Lib.hid hm
  have HT := Lib.hid hT
  have HT2 := Lib.hid hT2
  have HN2 := Lib.hid hn2
  clear hP hq hne hk hk1 h0 h4 hlong ea e1 e2 e3 hn1 hm1 hf hu hn hs hg hm hT hT2 hn2 hm2 hlong1
  obtain ⟨BX0, BF0, Z0, hz⟩ := boxes2 w W D J S ⟨5, 2, q, v, x, y, 0⟩
  go_enter Try.func8, Try.ntmps8
  go_wp2_with fail
  change Calls _ _ _ (bxc w W D J S ⟨5, 2, q, v, x, y, 0⟩) _
  generalize bxc w W D J S ⟨5, 2, q, v, x, y, 0⟩ = w0 at BX0 BF0 Z0 hz ⊢
  refine (awake_any _).mono ?_
  rintro _ w1 ⟨rfl, z⟩
  have Z := Lib.hid (Z0.trans (z.mono (by omega)))
  have BX := Lib.hid (BX0.below z)
  have BF := Lib.hid (BF0.after z)
  have HZ0 := Lib.hid (show w.heap.size ≤ w0.heap.size by omega)
  have LM := Lib.hid (LM0.out.below Z.out)
  clear LM0
  clear z Z0 BX0 BF0 hz HZ0
  obtain ⟨gx, x_0, x_1, x_2, x_3⟩ := BX.out
  obtain ⟨a0, a1, a2, a3, a4, a5, a6⟩ := BF.out.cells
  have la := BF.out.lt
  simp only at a0 a1 a2 a3 a4 a5 a6
  go_wp2_with fail
  refine (Tells.of (goes_any W D J S 5 5 A n c m ⟨5, 2, q, v, x, y, 0⟩ _ HN.out) (v' := .bool true) (by rw [HG.out])).mono ?_
  rintro _ w2 ⟨rfl, z⟩
  clear gx x_0 x_1 x_2 x_3 a0 a1 a2 a3 a4 a5 a6 la
  replace Z := Lib.hid (Z.out.trans (z.mono Z.out.size))
  replace BX := Lib.hid (BX.out.below z)
  replace BF := Lib.hid (BF.out.after z)
  replace LM := Lib.hid (LM.out.below z)
  clear z
  obtain ⟨gx, x_0, x_1, x_2, x_3⟩ := BX.out
  obtain ⟨a0, a1, a2, a3, a4, a5, a6⟩ := BF.out.cells
  have la := BF.out.lt
  simp only at a0 a1 a2 a3 a4 a5 a6
  go_wp2_with fail
  refine (store_new A n c m 2 e _ LM.out HN.out HS.out).mono ?_
  rintro _ w3 ⟨g3, rfl, hg3, hb3, z⟩
  clear gx x_0 x_1 x_2 x_3 a0 a1 a2 a3 a4 a5 a6 la
  replace Z := Lib.hid (Z.out.trans (z.mono Z.out.size))
  replace BX := Lib.hid (BX.out.below z)
  replace BF := Lib.hid (BF.out.after z)
  replace LM := Lib.hid (LM.out.below z)
  have L1 := Lib.hid (show Rd w3 (some ⟨g3, 0, none⟩) m1 by rw [HM1.out]; exact hb3.rd)
  clear hg3 hb3 z
  obtain ⟨gx, x_0, x_1, x_2, x_3⟩ := BX.out
  obtain ⟨a0, a1, a2, a3, a4, a5, a6⟩ := BF.out.cells
  have la := BF.out.lt
  simp only at a0 a1 a2 a3 a4 a5 a6
  go_wp2_with fail
  refine (wait_n (f := ⟨5, 2, q, v, x, y, 0⟩) L1.out HN1.out HS.out HU.out HE1.out).mono ?_
  rintro _ w4 ⟨A4, c4, rfl, hn4, z⟩
  clear gx x_0 x_1 x_2 x_3 a0 a1 a2 a3 a4 a5 a6 la
  replace Z := Lib.hid (Z.out.trans (z.mono Z.out.size))
  replace BX := Lib.hid (BX.out.below z)
  replace BF := Lib.hid (BF.out.after z)
  replace LM := Lib.hid (LM.out.below z)
  replace L1 := Lib.hid (L1.out.below z)
  have LA := Lib.hid hn4.rd
  clear hn4 z
  obtain ⟨gx, x_0, x_1, x_2, x_3⟩ := BX.out
  go_wp2_with fail
  refine (wait_n (f := ⟨5, 1, q, v, x, y, 0⟩) (LA.out.alloc _) HN1.out HS.out ⟨HU.out.1, HU.out.2.1, HU.out.2.2⟩ HE2.out).mono ?_
  rintro _ w5 ⟨A5, c5, rfl, hn5, z⟩
  clear gx x_0 x_1 x_2 x_3
  have BG := Lib.hid ((Bf.new w4 ⟨5, 1, q, v, x, y, 0⟩).after z)
  replace z := keep_call z (bel_alloc w4 _)
  replace Z := Lib.hid (Z.out.trans (z.mono Z.out.size))
  replace BX := Lib.hid (BX.out.below z)
  replace BF := Lib.hid (BF.out.after z)
  replace LM := Lib.hid (LM.out.below z)
  replace L1 := Lib.hid (L1.out.below z)
  replace LA := Lib.hid (LA.out.below z)
  have LB := Lib.hid hn5.rd
  clear hn5 z
  go_upto_region 7 with fail
  obtain ⟨ws, hws⟩ : ∃ ws, ws = w5.alloc (.cells #[.int .i64 5, .int .i64 2, .int .i64 q, .int .u64 v, .int .u64 x, .int .u64 e, .int .i64 0] 28) := ⟨_, rfl⟩
  have hz := box_below w5 (.cells #[.int .i64 5, .int .i64 2, .int .i64 q, .int .u64 v, .int .u64 x, .int .u64 e, .int .i64 0] 28)
  rw [← hws] at hz
  have BH := Lib.hid (show Bf ws w5.heap.size ⟨5, 2, q, v, x, e, 0⟩ by rw [hws]; exact Bf.new w5 ⟨5, 2, q, v, x, e, 0⟩)
  replace BX := Lib.hid (BX.out.below hz)
  replace BF := Lib.hid (BF.out.after hz)
  replace LM := Lib.hid (LM.out.below hz)
  replace L1 := Lib.hid (L1.out.below hz)
  replace LA := Lib.hid (LA.out.below hz)
  replace BG := Lib.hid (BG.out.after hz)
  replace LB := Lib.hid (LB.out.below hz)
  replace Z := Lib.hid (Z.out.trans (hz.mono Z.out.size))
  rw [← hws]
  clear hz hws
  go_cut [15] from 62 to 67 (fun b wz => b = .bool true ∧ Hid (Below ws.heap.size ws wz))
  case first =>
    have HK := Lib.hid (show ∀ x', Below ws.heap.size ws x' → (fun w' => w'.cell? ⟨w.heap.size + 1, 4, none⟩ = some (.int .u64 x) ∧ Below ws.heap.size ws w') x' from fun x' hx => by
      obtain ⟨f0, f1, f2, f3, f4, f5, f6⟩ := (BF.out.after hx).cells
      exact ⟨f4, hx⟩)
    have hHeld0 := HK.out _ (Below.refl _ _)
    have ZC := Lib.hid (Below.refl ws.heap.size ws).drew
    refine wp_region_held_drew (S := fun w' => w'.cell? ⟨w.heap.size + 1, 4, none⟩ = some (.int .u64 x) ∧ Below ws.heap.size ws w') (by kernel_rfl) (hd_drew HK.out (fun _ h => h.2) hHeld0) (fun hHeld => ?_)
    refine wpAnyH_take (i := 0) (oi := { dst := some 62, op := Go.Op.move (Go.Operand.tmp 3), type := 26, pos := "more.go:62", after := #[], guard := none }) (v := ?vza1) rfl (by kernel_rfl) (by kernel_rfl) (by kernel_rfl) (fun _ _ _ h => h) (Or.inl ⟨by rfl, ?yza1⟩) (by assumption) ?rza1
    case yza1 => (intro w hSw; (try dsimp only at hSw); go_simp; (try with_reducible rfl))
    (try simp only [Act.put, List.setIfInBounds_toArray, List.set_cons_zero, List.set_cons_succ])
    refine wpAnyH_take (i := 2) (oi := { dst := some 64, op := Go.Op.fieldAddr 28 (Go.Operand.tmp 6) 4, type := 0, pos := "more.go:62", after := #[], guard := none }) (v := ?vza2) rfl (by kernel_rfl) (by kernel_rfl) (by kernel_rfl) (fun _ _ _ h => h) (Or.inl ⟨by rfl, ?yza2⟩) (by assumption) ?rza2
    case yza2 => (intro w hSw; (try dsimp only at hSw); go_simp; (try with_reducible rfl))
    (try simp only [Act.put, List.setIfInBounds_toArray, List.set_cons_zero, List.set_cons_succ])
    refine wpAnyH_take (i := 3) (oi := { dst := some 65, op := Go.Op.load 26 (Go.Operand.tmp 64), type := 26, pos := "more.go:62", after := #[{ on := 2, ground := Go.Ground.data }], guard := none }) (v := ?vza3) rfl (by kernel_rfl) (by kernel_rfl) (by kernel_rfl) (fun _ _ _ h => h) (Or.inl ⟨by rfl, ?yza3⟩) (by assumption) ?rza3
    case yza3 => (intro w hSw; (try dsimp only at hSw); go_simp; (try with_reducible rfl))
    (try simp only [Act.put, List.setIfInBounds_toArray, List.set_cons_zero, List.set_cons_succ])
    refine wpAnyH_ready (rs := [1]) (by kernel_rfl) (by simp) ?_
    refine (AllReadyH.cons (o := { dst := some 63, op := Go.Op.call { callee := Go.Callee.value (Go.Operand.func 21), args := #[Go.Operand.tmp 62], argTypes := #[26] }, type := 26, pos := "more.go:62", after := #[{ on := 0, ground := Go.Ground.data }], guard := none }) rfl (fun K hK => ?_) AllReadyH.nil)
    go_simp
    refine (Tells.of (epoch_any e _).tells (v' := .int .u64 P) (by rw [HP.out])).mono ?_
    rintro e wz ⟨rfl, zb⟩
    go_wp2_with fail
    replace ZC := Lib.hid (keep_call (w2 := ws) zb ZC.out)
    clear zb
    refine hK.out _ _ (HK.out _ ZC.out) (fun hHeld2 => ?_)
    clear hK K hHeld
    have hHeld := hHeld2
    clear hHeld2
    (try simp only [Act.put, List.setIfInBounds_toArray, List.set_cons_zero, List.set_cons_succ])
    refine wpAnyH_ready (rs := [4]) (by kernel_rfl) (by simp) ?_
    refine (AllReadyH.cons (o := { dst := some 66, op := Go.Op.call { callee := Go.Callee.value (Go.Operand.func 21), args := #[Go.Operand.tmp 65], argTypes := #[26] }, type := 26, pos := "more.go:62", after := #[{ on := 3, ground := Go.Ground.data }, { on := 1, ground := Go.Ground.chain }], guard := none }) rfl (fun K hK => ?_) AllReadyH.nil)
    go_simp
    refine (Tells.of (epoch_any x _).tells (v' := .int .u64 P) (by rw [HP2.out])).mono ?_
    rintro e wz ⟨rfl, zb⟩
    go_wp2_with fail
    replace ZC := Lib.hid (keep_call (w2 := ws) zb ZC.out)
    clear zb
    refine hK.out _ _ (HK.out _ ZC.out) (fun hHeld2 => ?_)
    clear hK K hHeld
    have hHeld := hHeld2
    clear hHeld2
    (try simp only [Act.put, List.setIfInBounds_toArray, List.set_cons_zero, List.set_cons_succ])
    refine wpAnyH_take (i := 5) (oi := { dst := some 67, op := Go.Op.binOp Go.BinOp.eql 26 (Go.Operand.tmp 63) (Go.Operand.tmp 66) 26, type := 4, pos := "more.go:62", after := #[{ on := 1, ground := Go.Ground.data }, { on := 4, ground := Go.Ground.data }], guard := none }) (v := ?vza4) rfl (by kernel_rfl) (by kernel_rfl) (by kernel_rfl) (fun _ _ _ h => h) (Or.inl ⟨by rfl, ?yza4⟩) (by assumption) ?rza4
    case yza4 => (intro w hSw; (try dsimp only at hSw); go_simp; (try with_reducible rfl))
    (try simp only [Act.put, List.setIfInBounds_toArray, List.set_cons_zero, List.set_cons_succ])
    refine wpAnyH_take (i := 6) (oi := { dst := some 15, op := Go.Op.assign (Go.Operand.tmp 67), type := 4, pos := "more.go:62", after := #[{ on := 5, ground := Go.Ground.data }, { on := 4, ground := Go.Ground.chain }, { on := 0, ground := Go.Ground.phase }, { on := 1, ground := Go.Ground.phase }, { on := 2, ground := Go.Ground.phase }, { on := 3, ground := Go.Ground.phase }, { on := 4, ground := Go.Ground.phase }, { on := 5, ground := Go.Ground.phase }], guard := none }) (v := ?vza5) rfl (by kernel_rfl) (by kernel_rfl) (by kernel_rfl) (fun _ _ _ h => h) (Or.inl ⟨by rfl, ?yza5⟩) (by assumption) ?rza5
    case yza5 => (intro w hSw; (try dsimp only at hSw); go_simp; (try with_reducible rfl))
    (try simp only [Act.put, List.setIfInBounds_toArray, List.set_cons_zero, List.set_cons_succ])
    refine wpAnyH_done (by kernel_rfl) ?_ _
    go_wp2_with fail
    go_meet
    exact ⟨rfl, ZC⟩
  case rest =>
    obtain ⟨rfl, ZC⟩ := hcut
    replace BX := Lib.hid (BX.out.below ZC.out)
    replace BF := Lib.hid (BF.out.after ZC.out)
    replace LM := Lib.hid (LM.out.below ZC.out)
    replace L1 := Lib.hid (L1.out.below ZC.out)
    replace LA := Lib.hid (LA.out.below ZC.out)
    replace BG := Lib.hid (BG.out.after ZC.out)
    replace LB := Lib.hid (LB.out.below ZC.out)
    replace BH := Lib.hid (BH.out.after ZC.out)
    replace Z := Lib.hid (Z.out.trans (ZC.out.mono Z.out.size))
    clear ZC
    obtain ⟨gx, x_0, x_1, x_2, x_3⟩ := BX.out
    obtain ⟨d0, d1, d2, d3, d4, d5, d6⟩ := BH.out.cells
    have ld := BH.out.lt
    simp only at d0 d1 d2 d3 d4 d5 d6
    go_wp2_with fail
    refine (wait_n (f := ⟨5, 2, q, v, x, e, 0⟩) LB.out HN1.out HS.out ⟨HU.out.1, HU.out.2.1, HUE.out⟩ HE3.out).mono ?_
    rintro _ w7 ⟨A7, c7, rfl, hn7, z⟩
    clear gx x_0 x_1 x_2 x_3 d0 d1 d2 d3 d4 d5 d6 ld
    replace Z := Lib.hid (Z.out.trans (z.mono Z.out.size))
    replace BX := Lib.hid (BX.out.below z)
    replace BF := Lib.hid (BF.out.after z)
    replace LM := Lib.hid (LM.out.below z)
    replace L1 := Lib.hid (L1.out.below z)
    replace LA := Lib.hid (LA.out.below z)
    replace BG := Lib.hid (BG.out.after z)
    replace LB := Lib.hid (LB.out.below z)
    replace BH := Lib.hid (BH.out.after z)
    have LC := Lib.hid hn7.rd
    clear hn7 z
    go_upto_region 9 with fail
    obtain ⟨wk, hws⟩ : ∃ wk, wk = w7.alloc (.cells #[.int .i64 5, .int .i64 3, .int .i64 q, .int .u64 v, .int .u64 x, .int .u64 e, .int .i64 0] 28) := ⟨_, rfl⟩
    have hz := box_below w7 (.cells #[.int .i64 5, .int .i64 3, .int .i64 q, .int .u64 v, .int .u64 x, .int .u64 e, .int .i64 0] 28)
    rw [← hws] at hz
    have BK := Lib.hid (show Bf wk w7.heap.size ⟨5, 3, q, v, x, e, 0⟩ by rw [hws]; exact Bf.new w7 ⟨5, 3, q, v, x, e, 0⟩)
    replace BX := Lib.hid (BX.out.below hz)
    replace BF := Lib.hid (BF.out.after hz)
    replace LM := Lib.hid (LM.out.below hz)
    replace L1 := Lib.hid (L1.out.below hz)
    replace LA := Lib.hid (LA.out.below hz)
    replace BG := Lib.hid (BG.out.after hz)
    replace LB := Lib.hid (LB.out.below hz)
    replace BH := Lib.hid (BH.out.after hz)
    replace LC := Lib.hid (LC.out.below hz)
    replace Z := Lib.hid (Z.out.trans (hz.mono Z.out.size))
    rw [← hws]
    clear hz hws
    have HK := Lib.hid (show ∀ x', Below wk.heap.size wk x' → (fun w' => w'.cell? ⟨w.heap.size + 1, 2, none⟩ = some (.int .i64 q) ∧ w'.cell? ⟨w4.heap.size, 1, none⟩ = some (.int .i64 1) ∧ w'.cell? ⟨w5.heap.size, 0, none⟩ = some (.int .i64 5) ∧ w'.cell? ⟨w5.heap.size, 1, none⟩ = some (.int .i64 2) ∧ w'.cell? ⟨w5.heap.size, 2, none⟩ = some (.int .i64 q) ∧ w'.cell? ⟨w5.heap.size, 3, none⟩ = some (.int .u64 v) ∧ w'.cell? ⟨w5.heap.size, 4, none⟩ = some (.int .u64 x) ∧ w'.cell? ⟨w5.heap.size, 5, none⟩ = some (.int .u64 e) ∧ w'.cell? ⟨w5.heap.size, 6, none⟩ = some (.int .i64 0) ∧ w'.cell? ⟨w7.heap.size, 0, none⟩ = some (.int .i64 5) ∧ w'.cell? ⟨w7.heap.size, 1, none⟩ = some (.int .i64 3) ∧ w'.cell? ⟨w7.heap.size, 2, none⟩ = some (.int .i64 q) ∧ w'.cell? ⟨w7.heap.size, 3, none⟩ = some (.int .u64 v) ∧ w'.cell? ⟨w7.heap.size, 4, none⟩ = some (.int .u64 x) ∧ w'.cell? ⟨w7.heap.size, 5, none⟩ = some (.int .u64 e) ∧ w'.cell? ⟨w7.heap.size, 6, none⟩ = some (.int .i64 0) ∧ Below wk.heap.size wk w') x' from fun x' hx => by
      obtain ⟨f0, f1, f2, f3, f4, f5, f6⟩ := (BF.out.after hx).cells
      obtain ⟨g0, g1, g2, g3, g4, g5, g6⟩ := (BG.out.after hx).cells
      obtain ⟨h0, h1, h2, h3, h4, h5, h6⟩ := (BH.out.after hx).cells
      obtain ⟨k0, k1, k2, k3, k4, k5, k6⟩ := (BK.out.after hx).cells
      exact ⟨f2, g1, h0, h1, h2, h3, h4, h5, h6, k0, k1, k2, k3, k4, k5, k6, hx⟩)
    have hHeld0 := HK.out _ (Below.refl _ _)
    have ZC := Lib.hid (Below.refl wk.heap.size wk).drew
    refine wp_region_held_drew (S := fun w' => w'.cell? ⟨w.heap.size + 1, 2, none⟩ = some (.int .i64 q) ∧ w'.cell? ⟨w4.heap.size, 1, none⟩ = some (.int .i64 1) ∧ w'.cell? ⟨w5.heap.size, 0, none⟩ = some (.int .i64 5) ∧ w'.cell? ⟨w5.heap.size, 1, none⟩ = some (.int .i64 2) ∧ w'.cell? ⟨w5.heap.size, 2, none⟩ = some (.int .i64 q) ∧ w'.cell? ⟨w5.heap.size, 3, none⟩ = some (.int .u64 v) ∧ w'.cell? ⟨w5.heap.size, 4, none⟩ = some (.int .u64 x) ∧ w'.cell? ⟨w5.heap.size, 5, none⟩ = some (.int .u64 e) ∧ w'.cell? ⟨w5.heap.size, 6, none⟩ = some (.int .i64 0) ∧ w'.cell? ⟨w7.heap.size, 0, none⟩ = some (.int .i64 5) ∧ w'.cell? ⟨w7.heap.size, 1, none⟩ = some (.int .i64 3) ∧ w'.cell? ⟨w7.heap.size, 2, none⟩ = some (.int .i64 q) ∧ w'.cell? ⟨w7.heap.size, 3, none⟩ = some (.int .u64 v) ∧ w'.cell? ⟨w7.heap.size, 4, none⟩ = some (.int .u64 x) ∧ w'.cell? ⟨w7.heap.size, 5, none⟩ = some (.int .u64 e) ∧ w'.cell? ⟨w7.heap.size, 6, none⟩ = some (.int .i64 0) ∧ Below wk.heap.size wk w') (by kernel_rfl) (hd_drew HK.out (fun _ h => h.2.2.2.2.2.2.2.2.2.2.2.2.2.2.2.2) hHeld0) (fun hHeld => ?_)
    refine wpAnyH_take (i := 0) (oi := { dst := some 75, op := Go.Op.move (Go.Operand.tmp 11), type := 25, pos := "more.go:64", after := #[], guard := none }) (v := ?vzb1) rfl (by kernel_rfl) (by kernel_rfl) (by kernel_rfl) (fun _ _ _ h => h) (Or.inl ⟨by rfl, ?yzb1⟩) (by assumption) ?rzb1
    case yzb1 => (intro w hSw; (try dsimp only at hSw); go_simp; (try with_reducible rfl))
    (try simp only [Act.put, List.setIfInBounds_toArray, List.set_cons_zero, List.set_cons_succ])
    refine wpAnyH_take (i := 1) (oi := { dst := some 76, op := Go.Op.move (Go.Operand.tmp 10), type := 25, pos := "more.go:64", after := #[], guard := none }) (v := ?vzb2) rfl (by kernel_rfl) (by kernel_rfl) (by kernel_rfl) (fun _ _ _ h => h) (Or.inl ⟨by rfl, ?yzb2⟩) (by assumption) ?rzb2
    case yzb2 => (intro w hSw; (try dsimp only at hSw); go_simp; (try with_reducible rfl))
    (try simp only [Act.put, List.setIfInBounds_toArray, List.set_cons_zero, List.set_cons_succ])
    refine wpAnyH_ready (rs := [2]) (by kernel_rfl) (by simp) ?_
    refine (AllReadyH.cons (o := { dst := some 77, op := Go.Op.call { callee := Go.Callee.value (Go.Operand.func 23), args := #[Go.Operand.tmp 75, Go.Operand.tmp 76], argTypes := #[25, 25] }, type := 4, pos := "more.go:64", after := #[{ on := 0, ground := Go.Ground.data }, { on := 1, ground := Go.Ground.data }], guard := none }) rfl (fun K hK => ?_) AllReadyH.nil)
    go_simp
    refine (ret_of (same_any A4 (some ⟨g3, 0, none⟩) n c4 n n m1 m1 _ (LA.out.below ZC.out) (L1.out.below ZC.out) HN1.out HN1.out (by have := HS.out; omega)) (v' := .bool true) (by simp)).mono ?_
    rintro e wz ⟨rfl, zb⟩
    go_wp2_with fail
    replace ZC := Lib.hid (keep_call (w2 := wk) zb ZC.out)
    clear zb
    refine hK.out _ _ (HK.out _ ZC.out) (fun hHeld2 => ?_)
    clear hK K hHeld
    have hHeld := hHeld2
    clear hHeld2
    (try simp only [Act.put, List.setIfInBounds_toArray, List.set_cons_zero, List.set_cons_succ])
    refine wpAnyH_take (i := 3) (oi := { dst := some 78, op := Go.Op.move (Go.Operand.tmp 77), type := 4, pos := "more.go:64", after := #[{ on := 2, ground := Go.Ground.data }, { on := 2, ground := Go.Ground.chain }], guard := none }) (v := ?vzb3) rfl (by kernel_rfl) (by kernel_rfl) (by kernel_rfl) (fun _ _ _ h => h) (Or.inl ⟨by rfl, ?yzb3⟩) (by assumption) ?rzb3
    case yzb3 => (intro w hSw; (try dsimp only at hSw); go_simp; (try with_reducible rfl))
    (try simp only [Act.put, List.setIfInBounds_toArray, List.set_cons_zero, List.set_cons_succ])
    refine wpAnyH_take (i := 4) (oi := { dst := some 79, op := Go.Op.fieldAddr 28 (Go.Operand.tmp 12) 1, type := 0, pos := "more.go:64", after := #[{ on := 3, ground := Go.Ground.guard }], guard := some (3, true) }) (v := ?vzb4) rfl (by kernel_rfl) (by kernel_rfl) (by kernel_rfl) (fun _ _ _ h => h) (Or.inl ⟨by rfl, ?yzb4⟩) (by assumption) ?rzb4
    case yzb4 => (intro w hSw; (try dsimp only at hSw); go_simp; (try with_reducible rfl))
    (try simp only [Act.put, List.setIfInBounds_toArray, List.set_cons_zero, List.set_cons_succ])
    refine wpAnyH_take (i := 5) (oi := { dst := some 80, op := Go.Op.load 3 (Go.Operand.tmp 79), type := 3, pos := "more.go:64", after := #[{ on := 4, ground := Go.Ground.data }, { on := 3, ground := Go.Ground.guard }], guard := some (3, true) }) (v := ?vzb5) rfl (by kernel_rfl) (by kernel_rfl) (by kernel_rfl) (fun _ _ _ h => h) (Or.inl ⟨by rfl, ?yzb5⟩) (by assumption) ?rzb5
    case yzb5 => (intro w hSw; (try dsimp only at hSw); go_simp; (try with_reducible rfl))
    (try simp only [Act.put, List.setIfInBounds_toArray, List.set_cons_zero, List.set_cons_succ])
    refine wpAnyH_take (i := 6) (oi := { dst := some 81, op := Go.Op.binOp Go.BinOp.eql 3 (Go.Operand.tmp 80) (Go.Operand.const (Go.Value.int Go.IntKind.i64 1)) 3, type := 4, pos := "more.go:64", after := #[{ on := 5, ground := Go.Ground.data }, { on := 3, ground := Go.Ground.guard }], guard := some (3, true) }) (v := ?vzb6) rfl (by kernel_rfl) (by kernel_rfl) (by kernel_rfl) (fun _ _ _ h => h) (Or.inl ⟨by rfl, ?yzb6⟩) (by assumption) ?rzb6
    case yzb6 => (intro w hSw; (try dsimp only at hSw); go_simp; (try with_reducible rfl))
    (try simp only [Act.put, List.setIfInBounds_toArray, List.set_cons_zero, List.set_cons_succ])
    refine wpAnyH_take (i := 7) (oi := { dst := some 82, op := Go.Op.pick (Go.Operand.tmp 78) (Go.Operand.tmp 81) (Go.Operand.const (Go.Value.bool false)), type := 4, pos := "more.go:64", after := #[{ on := 3, ground := Go.Ground.data }, { on := 6, ground := Go.Ground.data }], guard := none }) (v := ?vzb7) rfl (by kernel_rfl) (by kernel_rfl) (by kernel_rfl) (fun _ _ _ h => h) (Or.inl ⟨by rfl, ?yzb7⟩) (by assumption) ?rzb7
    case yzb7 => (intro w hSw; (try dsimp only at hSw); go_simp; (try with_reducible rfl))
    (try simp only [Act.put, List.setIfInBounds_toArray, List.set_cons_zero, List.set_cons_succ])
    refine wpAnyH_take (i := 8) (oi := { dst := some 83, op := Go.Op.move (Go.Operand.tmp 82), type := 4, pos := "more.go:64", after := #[{ on := 7, ground := Go.Ground.data }, { on := 3, ground := Go.Ground.chain }], guard := none }) (v := ?vzb8) rfl (by kernel_rfl) (by kernel_rfl) (by kernel_rfl) (fun _ _ _ h => h) (Or.inl ⟨by rfl, ?yzb8⟩) (by assumption) ?rzb8
    case yzb8 => (intro w hSw; (try dsimp only at hSw); go_simp; (try with_reducible rfl))
    (try simp only [Act.put, List.setIfInBounds_toArray, List.set_cons_zero, List.set_cons_succ])
    refine wpAnyH_take (i := 9) (oi := { dst := some 84, op := Go.Op.move (Go.Operand.tmp 13), type := 25, pos := "more.go:64", after := #[{ on := 8, ground := Go.Ground.guard }], guard := some (8, true) }) (v := ?vzb9) rfl (by kernel_rfl) (by kernel_rfl) (by kernel_rfl) (fun _ _ _ h => h) (Or.inl ⟨by rfl, ?yzb9⟩) (by assumption) ?rzb9
    case yzb9 => (intro w hSw; (try dsimp only at hSw); go_simp; (try with_reducible rfl))
    (try simp only [Act.put, List.setIfInBounds_toArray, List.set_cons_zero, List.set_cons_succ])
    refine wpAnyH_take (i := 10) (oi := { dst := some 85, op := Go.Op.move (Go.Operand.tmp 10), type := 25, pos := "more.go:64", after := #[{ on := 8, ground := Go.Ground.guard }], guard := some (8, true) }) (v := ?vzb10) rfl (by kernel_rfl) (by kernel_rfl) (by kernel_rfl) (fun _ _ _ h => h) (Or.inl ⟨by rfl, ?yzb10⟩) (by assumption) ?rzb10
    case yzb10 => (intro w hSw; (try dsimp only at hSw); go_simp; (try with_reducible rfl))
    (try simp only [Act.put, List.setIfInBounds_toArray, List.set_cons_zero, List.set_cons_succ])
    refine wpAnyH_ready (rs := [11]) (by kernel_rfl) (by simp) ?_
    refine (AllReadyH.cons (o := { dst := some 86, op := Go.Op.call { callee := Go.Callee.value (Go.Operand.func 23), args := #[Go.Operand.tmp 84, Go.Operand.tmp 85], argTypes := #[25, 25] }, type := 4, pos := "more.go:64", after := #[{ on := 9, ground := Go.Ground.data }, { on := 10, ground := Go.Ground.data }, { on := 8, ground := Go.Ground.chain }, { on := 8, ground := Go.Ground.guard }], guard := some (8, true) }) rfl (fun K hK => ?_) AllReadyH.nil)
    go_simp
    refine (ret_of (same_any A5 (some ⟨g3, 0, none⟩) n c5 n n m1 m1 _ (LB.out.below ZC.out) (L1.out.below ZC.out) HN1.out HN1.out (by have := HS.out; omega)) (v' := .bool true) (by simp)).mono ?_
    rintro e wz ⟨rfl, zb⟩
    go_wp2_with fail
    replace ZC := Lib.hid (keep_call (w2 := wk) zb ZC.out)
    clear zb
    refine hK.out _ _ (HK.out _ ZC.out) (fun hHeld2 => ?_)
    clear hK K hHeld
    have hHeld := hHeld2
    clear hHeld2
    (try simp only [Act.put, List.setIfInBounds_toArray, List.set_cons_zero, List.set_cons_succ])
    refine wpAnyH_take (i := 12) (oi := { dst := some 87, op := Go.Op.pick (Go.Operand.tmp 83) (Go.Operand.tmp 86) (Go.Operand.const (Go.Value.bool false)), type := 4, pos := "more.go:64", after := #[{ on := 8, ground := Go.Ground.data }, { on := 11, ground := Go.Ground.data }], guard := none }) (v := ?vzb11) rfl (by kernel_rfl) (by kernel_rfl) (by kernel_rfl) (fun _ _ _ h => h) (Or.inl ⟨by rfl, ?yzb11⟩) (by assumption) ?rzb11
    case yzb11 => (intro w hSw; (try dsimp only at hSw); go_simp; (try with_reducible rfl))
    (try simp only [Act.put, List.setIfInBounds_toArray, List.set_cons_zero, List.set_cons_succ])
    refine wpAnyH_take (i := 13) (oi := { dst := some 88, op := Go.Op.move (Go.Operand.tmp 87), type := 4, pos := "more.go:64", after := #[{ on := 12, ground := Go.Ground.data }, { on := 11, ground := Go.Ground.chain }], guard := none }) (v := ?vzb12) rfl (by kernel_rfl) (by kernel_rfl) (by kernel_rfl) (fun _ _ _ h => h) (Or.inl ⟨by rfl, ?yzb12⟩) (by assumption) ?rzb12
    case yzb12 => (intro w hSw; (try dsimp only at hSw); go_simp; (try with_reducible rfl))
    (try simp only [Act.put, List.setIfInBounds_toArray, List.set_cons_zero, List.set_cons_succ])
    refine wpAnyH_take (i := 14) (oi := { dst := some 89, op := Go.Op.move (Go.Operand.tmp 15), type := 4, pos := "more.go:64", after := #[{ on := 13, ground := Go.Ground.guard }], guard := some (13, true) }) (v := ?vzb13) rfl (by kernel_rfl) (by kernel_rfl) (by kernel_rfl) (fun _ _ _ h => h) (Or.inl ⟨by rfl, ?yzb13⟩) (by assumption) ?rzb13
    case yzb13 => (intro w hSw; (try dsimp only at hSw); go_simp; (try with_reducible rfl))
    (try simp only [Act.put, List.setIfInBounds_toArray, List.set_cons_zero, List.set_cons_succ])
    refine wpAnyH_take (i := 15) (oi := { dst := some 90, op := Go.Op.move (Go.Operand.tmp 89), type := 4, pos := "more.go:64", after := #[{ on := 14, ground := Go.Ground.data }, { on := 13, ground := Go.Ground.chain }, { on := 13, ground := Go.Ground.guard }], guard := some (13, true) }) (v := ?vzb14) rfl (by kernel_rfl) (by kernel_rfl) (by kernel_rfl) (fun _ _ _ h => h) (Or.inl ⟨by rfl, ?yzb14⟩) (by assumption) ?rzb14
    case yzb14 => (intro w hSw; (try dsimp only at hSw); go_simp; (try with_reducible rfl))
    (try simp only [Act.put, List.setIfInBounds_toArray, List.set_cons_zero, List.set_cons_succ])
    refine wpAnyH_take (i := 16) (oi := { dst := some 91, op := Go.Op.fieldAddr 28 (Go.Operand.tmp 14) 1, type := 0, pos := "more.go:64", after := #[{ on := 15, ground := Go.Ground.guard }], guard := some (15, true) }) (v := ?vzb15) rfl (by kernel_rfl) (by kernel_rfl) (by kernel_rfl) (fun _ _ _ h => h) (Or.inl ⟨by rfl, ?yzb15⟩) (by assumption) ?rzb15
    case yzb15 => (intro w hSw; (try dsimp only at hSw); go_simp; (try with_reducible rfl))
    (try simp only [Act.put, List.setIfInBounds_toArray, List.set_cons_zero, List.set_cons_succ])
    refine wpAnyH_take (i := 17) (oi := { dst := some 92, op := Go.Op.load 3 (Go.Operand.tmp 91), type := 3, pos := "more.go:64", after := #[{ on := 16, ground := Go.Ground.data }, { on := 15, ground := Go.Ground.guard }], guard := some (15, true) }) (v := ?vzb16) rfl (by kernel_rfl) (by kernel_rfl) (by kernel_rfl) (fun _ _ _ h => h) (Or.inl ⟨by rfl, ?yzb16⟩) (by assumption) ?rzb16
    case yzb16 => (intro w hSw; (try dsimp only at hSw); go_simp; (try with_reducible rfl))
    (try simp only [Act.put, List.setIfInBounds_toArray, List.set_cons_zero, List.set_cons_succ])
    refine wpAnyH_take (i := 18) (oi := { dst := some 93, op := Go.Op.binOp Go.BinOp.eql 3 (Go.Operand.tmp 92) (Go.Operand.const (Go.Value.int Go.IntKind.i64 2)) 3, type := 4, pos := "more.go:64", after := #[{ on := 17, ground := Go.Ground.data }, { on := 15, ground := Go.Ground.guard }], guard := some (15, true) }) (v := ?vzb17) rfl (by kernel_rfl) (by kernel_rfl) (by kernel_rfl) (fun _ _ _ h => h) (Or.inl ⟨by rfl, ?yzb17⟩) (by assumption) ?rzb17
    case yzb17 => (intro w hSw; (try dsimp only at hSw); go_simp; (try with_reducible rfl))
    (try simp only [Act.put, List.setIfInBounds_toArray, List.set_cons_zero, List.set_cons_succ])
    refine wpAnyH_take (i := 19) (oi := { dst := some 94, op := Go.Op.pick (Go.Operand.tmp 90) (Go.Operand.tmp 93) (Go.Operand.const (Go.Value.bool false)), type := 4, pos := "more.go:64", after := #[{ on := 15, ground := Go.Ground.data }, { on := 18, ground := Go.Ground.data }, { on := 13, ground := Go.Ground.guard }], guard := some (13, true) }) (v := ?vzb18) rfl (by kernel_rfl) (by kernel_rfl) (by kernel_rfl) (fun _ _ _ h => h) (Or.inl ⟨by rfl, ?yzb18⟩) (by assumption) ?rzb18
    case yzb18 => (intro w hSw; (try dsimp only at hSw); go_simp; (try with_reducible rfl))
    (try simp only [Act.put, List.setIfInBounds_toArray, List.set_cons_zero, List.set_cons_succ])
    refine wpAnyH_take (i := 20) (oi := { dst := some 95, op := Go.Op.move (Go.Operand.tmp 94), type := 4, pos := "more.go:64", after := #[{ on := 19, ground := Go.Ground.data }, { on := 15, ground := Go.Ground.chain }, { on := 13, ground := Go.Ground.guard }], guard := some (13, true) }) (v := ?vzb19) rfl (by kernel_rfl) (by kernel_rfl) (by kernel_rfl) (fun _ _ _ h => h) (Or.inl ⟨by rfl, ?yzb19⟩) (by assumption) ?rzb19
    case yzb19 => (intro w hSw; (try dsimp only at hSw); go_simp; (try with_reducible rfl))
    (try simp only [Act.put, List.setIfInBounds_toArray, List.set_cons_zero, List.set_cons_succ])
    refine wpAnyH_take (i := 21) (oi := { dst := some 96, op := Go.Op.load 28 (Go.Operand.tmp 17), type := 28, pos := "more.go:64", after := #[{ on := 20, ground := Go.Ground.guard }], guard := some (20, true) }) (v := ?vzb20) rfl (by kernel_rfl) (by kernel_rfl) (by kernel_rfl) (fun _ _ _ h => h) (Or.inl ⟨by rfl, ?yzb20⟩) (by assumption) ?rzb20
    case yzb20 => (intro w hSw; (try dsimp only at hSw); go_simp; (try with_reducible rfl))
    (try simp only [Act.put, List.setIfInBounds_toArray, List.set_cons_zero, List.set_cons_succ])
    refine wpAnyH_ready (rs := [22]) (by kernel_rfl) (by simp) ?_
    refine (AllReadyH.cons (o := { dst := some 97, op := Go.Op.call { callee := Go.Callee.value (Go.Operand.func 15), args := #[Go.Operand.tmp 96], argTypes := #[28] }, type := 4, pos := "more.go:64", after := #[{ on := 21, ground := Go.Ground.data }, { on := 20, ground := Go.Ground.chain }, { on := 20, ground := Go.Ground.guard }], guard := some (20, true) }) rfl (fun K hK => ?_) AllReadyH.nil)
    go_simp
    refine (Tells.of (prk_any ⟨5, 3, q, v, x, e, 0⟩ _) (v' := .bool true) (by rfl)).mono ?_
    rintro e wz ⟨rfl, zb⟩
    go_wp2_with fail
    replace ZC := Lib.hid (keep_call (w2 := wk) zb ZC.out)
    clear zb
    refine hK.out _ _ (HK.out _ ZC.out) (fun hHeld2 => ?_)
    clear hK K hHeld
    have hHeld := hHeld2
    clear hHeld2
    (try simp only [Act.put, List.setIfInBounds_toArray, List.set_cons_zero, List.set_cons_succ])
    refine wpAnyH_take (i := 23) (oi := { dst := some 98, op := Go.Op.pick (Go.Operand.tmp 95) (Go.Operand.tmp 97) (Go.Operand.const (Go.Value.bool false)), type := 4, pos := "more.go:64", after := #[{ on := 20, ground := Go.Ground.data }, { on := 22, ground := Go.Ground.data }, { on := 13, ground := Go.Ground.guard }], guard := some (13, true) }) (v := ?vzb21) rfl (by kernel_rfl) (by kernel_rfl) (by kernel_rfl) (fun _ _ _ h => h) (Or.inl ⟨by rfl, ?yzb21⟩) (by assumption) ?rzb21
    case yzb21 => (intro w hSw; (try dsimp only at hSw); go_simp; (try with_reducible rfl))
    (try simp only [Act.put, List.setIfInBounds_toArray, List.set_cons_zero, List.set_cons_succ])
    refine wpAnyH_take (i := 24) (oi := { dst := some 99, op := Go.Op.move (Go.Operand.tmp 98), type := 4, pos := "more.go:64", after := #[{ on := 23, ground := Go.Ground.data }, { on := 22, ground := Go.Ground.chain }, { on := 13, ground := Go.Ground.guard }], guard := some (13, true) }) (v := ?vzb22) rfl (by kernel_rfl) (by kernel_rfl) (by kernel_rfl) (fun _ _ _ h => h) (Or.inl ⟨by rfl, ?yzb22⟩) (by assumption) ?rzb22
    case yzb22 => (intro w hSw; (try dsimp only at hSw); go_simp; (try with_reducible rfl))
    (try simp only [Act.put, List.setIfInBounds_toArray, List.set_cons_zero, List.set_cons_succ])
    refine wpAnyH_take (i := 25) (oi := { dst := some 100, op := Go.Op.move (Go.Operand.tmp 16), type := 25, pos := "more.go:64", after := #[{ on := 24, ground := Go.Ground.guard }], guard := some (24, true) }) (v := ?vzb23) rfl (by kernel_rfl) (by kernel_rfl) (by kernel_rfl) (fun _ _ _ h => h) (Or.inl ⟨by rfl, ?yzb23⟩) (by assumption) ?rzb23
    case yzb23 => (intro w hSw; (try dsimp only at hSw); go_simp; (try with_reducible rfl))
    (try simp only [Act.put, List.setIfInBounds_toArray, List.set_cons_zero, List.set_cons_succ])
    refine wpAnyH_take (i := 27) (oi := { dst := some 102, op := Go.Op.move (Go.Operand.tmp 3), type := 26, pos := "more.go:64", after := #[{ on := 24, ground := Go.Ground.guard }], guard := some (24, true) }) (v := ?vzb24) rfl (by kernel_rfl) (by kernel_rfl) (by kernel_rfl) (fun _ _ _ h => h) (Or.inl ⟨by rfl, ?yzb24⟩) (by assumption) ?rzb24
    case yzb24 => (intro w hSw; (try dsimp only at hSw); go_simp; (try with_reducible rfl))
    (try simp only [Act.put, List.setIfInBounds_toArray, List.set_cons_zero, List.set_cons_succ])
    refine wpAnyH_take (i := 28) (oi := { dst := some 103, op := Go.Op.fieldAddr 28 (Go.Operand.tmp 6) 2, type := 0, pos := "more.go:64", after := #[{ on := 24, ground := Go.Ground.guard }], guard := some (24, true) }) (v := ?vzb25) rfl (by kernel_rfl) (by kernel_rfl) (by kernel_rfl) (fun _ _ _ h => h) (Or.inl ⟨by rfl, ?yzb25⟩) (by assumption) ?rzb25
    case yzb25 => (intro w hSw; (try dsimp only at hSw); go_simp; (try with_reducible rfl))
    (try simp only [Act.put, List.setIfInBounds_toArray, List.set_cons_zero, List.set_cons_succ])
    refine wpAnyH_take (i := 29) (oi := { dst := some 104, op := Go.Op.load 3 (Go.Operand.tmp 103), type := 3, pos := "more.go:64", after := #[{ on := 28, ground := Go.Ground.data }, { on := 24, ground := Go.Ground.guard }], guard := some (24, true) }) (v := ?vzb26) rfl (by kernel_rfl) (by kernel_rfl) (by kernel_rfl) (fun _ _ _ h => h) (Or.inl ⟨by rfl, ?yzb26⟩) (by assumption) ?rzb26
    case yzb26 => (intro w hSw; (try dsimp only at hSw); go_simp; (try with_reducible rfl))
    (try simp only [Act.put, List.setIfInBounds_toArray, List.set_cons_zero, List.set_cons_succ])
    refine wpAnyH_ready (rs := [26]) (by kernel_rfl) (by simp) ?_
    refine (AllReadyH.cons (o := { dst := some 101, op := Go.Op.call { callee := Go.Callee.value (Go.Operand.func 22), args := #[Go.Operand.tmp 100, Go.Operand.const (Go.Value.int Go.IntKind.i64 2)], argTypes := #[25, 3] }, type := 26, pos := "more.go:64", after := #[{ on := 25, ground := Go.Ground.data }, { on := 24, ground := Go.Ground.chain }, { on := 24, ground := Go.Ground.guard }], guard := some (24, true) }) rfl (fun K hK => ?_) AllReadyH.nil)
    go_simp
    refine (ret_of (load_any A7 n c7 m2 2 _ (LC.out.below ZC.out) HN2.out HS.out) (v' := .int .u64 T) (by rw [HT2.out])).mono ?_
    rintro e wz ⟨rfl, zb⟩
    go_wp2_with fail
    replace ZC := Lib.hid (keep_call (w2 := wk) zb ZC.out)
    clear zb
    refine hK.out _ _ (HK.out _ ZC.out) (fun hHeld2 => ?_)
    clear hK K hHeld
    have hHeld := hHeld2
    clear hHeld2
    (try simp only [Act.put, List.setIfInBounds_toArray, List.set_cons_zero, List.set_cons_succ])
    refine wpAnyH_ready (rs := [30]) (by kernel_rfl) (by simp) ?_
    refine (AllReadyH.cons (o := { dst := some 105, op := Go.Op.call { callee := Go.Callee.value (Go.Operand.func 24), args := #[Go.Operand.tmp 102, Go.Operand.tmp 104], argTypes := #[26, 3] }, type := 26, pos := "more.go:64", after := #[{ on := 27, ground := Go.Ground.data }, { on := 29, ground := Go.Ground.data }, { on := 26, ground := Go.Ground.chain }, { on := 24, ground := Go.Ground.guard }], guard := some (24, true) }) rfl (fun K hK => ?_) AllReadyH.nil)
    go_simp
    refine (Tells.of (set_any e q _ HUE.out).tells (v' := .int .u64 T) (by rw [HT.out])).mono ?_
    rintro e wz ⟨rfl, zb⟩
    go_wp2_with fail
    replace ZC := Lib.hid (keep_call (w2 := wk) zb ZC.out)
    clear zb
    refine hK.out _ _ (HK.out _ ZC.out) (fun hHeld2 => ?_)
    clear hK K hHeld
    have hHeld := hHeld2
    clear hHeld2
    (try simp only [Act.put, List.setIfInBounds_toArray, List.set_cons_zero, List.set_cons_succ])
    refine wpAnyH_take (i := 31) (oi := { dst := some 106, op := Go.Op.binOp Go.BinOp.eql 26 (Go.Operand.tmp 101) (Go.Operand.tmp 105) 26, type := 4, pos := "more.go:64", after := #[{ on := 26, ground := Go.Ground.data }, { on := 30, ground := Go.Ground.data }, { on := 24, ground := Go.Ground.guard }], guard := some (24, true) }) (v := ?vzb27) rfl (by kernel_rfl) (by kernel_rfl) (by kernel_rfl) (fun _ _ _ h => h) (Or.inl ⟨by rfl, ?yzb27⟩) (by assumption) ?rzb27
    case yzb27 => (intro w hSw; (try dsimp only at hSw); go_simp; (try with_reducible rfl))
    (try simp only [Act.put, List.setIfInBounds_toArray, List.set_cons_zero, List.set_cons_succ])
    refine wpAnyH_take (i := 32) (oi := { dst := some 107, op := Go.Op.pick (Go.Operand.tmp 99) (Go.Operand.tmp 106) (Go.Operand.const (Go.Value.bool false)), type := 4, pos := "more.go:64", after := #[{ on := 24, ground := Go.Ground.data }, { on := 31, ground := Go.Ground.data }, { on := 13, ground := Go.Ground.guard }], guard := some (13, true) }) (v := ?vzb28) rfl (by kernel_rfl) (by kernel_rfl) (by kernel_rfl) (fun _ _ _ h => h) (Or.inl ⟨by rfl, ?yzb28⟩) (by assumption) ?rzb28
    case yzb28 => (intro w hSw; (try dsimp only at hSw); go_simp; (try with_reducible rfl))
    (try simp only [Act.put, List.setIfInBounds_toArray, List.set_cons_zero, List.set_cons_succ])
    refine wpAnyH_take (i := 33) (oi := { dst := some 108, op := Go.Op.move (Go.Operand.tmp 107), type := 4, pos := "more.go:64", after := #[{ on := 32, ground := Go.Ground.data }, { on := 30, ground := Go.Ground.chain }, { on := 13, ground := Go.Ground.guard }], guard := some (13, true) }) (v := ?vzb29) rfl (by kernel_rfl) (by kernel_rfl) (by kernel_rfl) (fun _ _ _ h => h) (Or.inl ⟨by rfl, ?yzb29⟩) (by assumption) ?rzb29
    case yzb29 => (intro w hSw; (try dsimp only at hSw); go_simp; (try with_reducible rfl))
    (try simp only [Act.put, List.setIfInBounds_toArray, List.set_cons_zero, List.set_cons_succ])
    refine wpAnyH_take (i := 34) (oi := { dst := some 109, op := Go.Op.move (Go.Operand.tmp 15), type := 4, pos := "more.go:64", after := #[{ on := 33, ground := Go.Ground.guard }], guard := some (33, false) }) (v := undef) rfl (by kernel_rfl) (by kernel_rfl) (by kernel_rfl) (fun _ _ _ h => h) (Or.inr ⟨by rfl, rfl⟩) (by assumption) ?_
    (try simp only [Act.put, List.setIfInBounds_toArray, List.set_cons_zero, List.set_cons_succ])
    refine wpAnyH_take (i := 35) (oi := { dst := some 110, op := Go.Op.unOp Go.UnOp.not 4 (Go.Operand.tmp 109), type := 4, pos := "more.go:64", after := #[{ on := 34, ground := Go.Ground.data }, { on := 33, ground := Go.Ground.guard }], guard := some (33, false) }) (v := undef) rfl (by kernel_rfl) (by kernel_rfl) (by kernel_rfl) (fun _ _ _ h => h) (Or.inr ⟨by rfl, rfl⟩) (by assumption) ?_
    (try simp only [Act.put, List.setIfInBounds_toArray, List.set_cons_zero, List.set_cons_succ])
    refine wpAnyH_take (i := 36) (oi := { dst := some 111, op := Go.Op.move (Go.Operand.tmp 110), type := 4, pos := "more.go:64", after := #[{ on := 35, ground := Go.Ground.data }, { on := 33, ground := Go.Ground.chain }, { on := 33, ground := Go.Ground.guard }], guard := some (33, false) }) (v := undef) rfl (by kernel_rfl) (by kernel_rfl) (by kernel_rfl) (fun _ _ _ h => h) (Or.inr ⟨by rfl, rfl⟩) (by assumption) ?_
    (try simp only [Act.put, List.setIfInBounds_toArray, List.set_cons_zero, List.set_cons_succ])
    refine wpAnyH_take (i := 37) (oi := { dst := some 112, op := Go.Op.fieldAddr 28 (Go.Operand.tmp 14) 6, type := 0, pos := "more.go:64", after := #[{ on := 36, ground := Go.Ground.guard }], guard := some (36, true) }) (v := undef) rfl (by kernel_rfl) (by kernel_rfl) (by kernel_rfl) (fun _ _ _ h => h) (Or.inr ⟨by rfl, rfl⟩) (by assumption) ?_
    (try simp only [Act.put, List.setIfInBounds_toArray, List.set_cons_zero, List.set_cons_succ])
    refine wpAnyH_take (i := 38) (oi := { dst := some 113, op := Go.Op.load 3 (Go.Operand.tmp 112), type := 3, pos := "more.go:64", after := #[{ on := 37, ground := Go.Ground.data }, { on := 36, ground := Go.Ground.guard }], guard := some (36, true) }) (v := undef) rfl (by kernel_rfl) (by kernel_rfl) (by kernel_rfl) (fun _ _ _ h => h) (Or.inr ⟨by rfl, rfl⟩) (by assumption) ?_
    (try simp only [Act.put, List.setIfInBounds_toArray, List.set_cons_zero, List.set_cons_succ])
    refine wpAnyH_take (i := 39) (oi := { dst := some 114, op := Go.Op.binOp Go.BinOp.eql 3 (Go.Operand.tmp 113) (Go.Operand.const (Go.Value.int Go.IntKind.i64 4)) 3, type := 4, pos := "more.go:64", after := #[{ on := 38, ground := Go.Ground.data }, { on := 36, ground := Go.Ground.guard }], guard := some (36, true) }) (v := undef) rfl (by kernel_rfl) (by kernel_rfl) (by kernel_rfl) (fun _ _ _ h => h) (Or.inr ⟨by rfl, rfl⟩) (by assumption) ?_
    (try simp only [Act.put, List.setIfInBounds_toArray, List.set_cons_zero, List.set_cons_succ])
    refine wpAnyH_take (i := 40) (oi := { dst := some 115, op := Go.Op.pick (Go.Operand.tmp 111) (Go.Operand.tmp 114) (Go.Operand.const (Go.Value.bool false)), type := 4, pos := "more.go:64", after := #[{ on := 36, ground := Go.Ground.data }, { on := 39, ground := Go.Ground.data }, { on := 33, ground := Go.Ground.guard }], guard := some (33, false) }) (v := undef) rfl (by kernel_rfl) (by kernel_rfl) (by kernel_rfl) (fun _ _ _ h => h) (Or.inr ⟨by rfl, rfl⟩) (by assumption) ?_
    (try simp only [Act.put, List.setIfInBounds_toArray, List.set_cons_zero, List.set_cons_succ])
    refine wpAnyH_take (i := 41) (oi := { dst := some 116, op := Go.Op.move (Go.Operand.tmp 115), type := 4, pos := "more.go:64", after := #[{ on := 40, ground := Go.Ground.data }, { on := 36, ground := Go.Ground.chain }, { on := 33, ground := Go.Ground.guard }], guard := some (33, false) }) (v := undef) rfl (by kernel_rfl) (by kernel_rfl) (by kernel_rfl) (fun _ _ _ h => h) (Or.inr ⟨by rfl, rfl⟩) (by assumption) ?_
    (try simp only [Act.put, List.setIfInBounds_toArray, List.set_cons_zero, List.set_cons_succ])
    refine wpAnyH_take (i := 42) (oi := { dst := some 117, op := Go.Op.load 28 (Go.Operand.tmp 17), type := 28, pos := "more.go:64", after := #[{ on := 41, ground := Go.Ground.guard }], guard := some (41, true) }) (v := undef) rfl (by kernel_rfl) (by kernel_rfl) (by kernel_rfl) (fun _ _ _ h => h) (Or.inr ⟨by rfl, rfl⟩) (by assumption) ?_
    (try simp only [Act.put, List.setIfInBounds_toArray, List.set_cons_zero, List.set_cons_succ])
    refine wpAnyH_take (i := 43) (oi := { dst := some 118, op := Go.Op.load 28 (Go.Operand.tmp 14), type := 28, pos := "more.go:64", after := #[{ on := 41, ground := Go.Ground.guard }], guard := some (41, true) }) (v := undef) rfl (by kernel_rfl) (by kernel_rfl) (by kernel_rfl) (fun _ _ _ h => h) (Or.inr ⟨by rfl, rfl⟩) (by assumption) ?_
    (try simp only [Act.put, List.setIfInBounds_toArray, List.set_cons_zero, List.set_cons_succ])
    refine wpAnyH_take (i := 44) (oi := { dst := some 119, op := Go.Op.binOp Go.BinOp.eql 28 (Go.Operand.tmp 117) (Go.Operand.tmp 118) 28, type := 4, pos := "more.go:64", after := #[{ on := 42, ground := Go.Ground.data }, { on := 43, ground := Go.Ground.data }, { on := 41, ground := Go.Ground.guard }], guard := some (41, true) }) (v := undef) rfl (by kernel_rfl) (by kernel_rfl) (by kernel_rfl) (fun _ _ _ h => h) (Or.inr ⟨by rfl, rfl⟩) (by assumption) ?_
    (try simp only [Act.put, List.setIfInBounds_toArray, List.set_cons_zero, List.set_cons_succ])
    refine wpAnyH_take (i := 45) (oi := { dst := some 120, op := Go.Op.pick (Go.Operand.tmp 116) (Go.Operand.tmp 119) (Go.Operand.const (Go.Value.bool false)), type := 4, pos := "more.go:64", after := #[{ on := 41, ground := Go.Ground.data }, { on := 44, ground := Go.Ground.data }, { on := 33, ground := Go.Ground.guard }], guard := some (33, false) }) (v := undef) rfl (by kernel_rfl) (by kernel_rfl) (by kernel_rfl) (fun _ _ _ h => h) (Or.inr ⟨by rfl, rfl⟩) (by assumption) ?_
    (try simp only [Act.put, List.setIfInBounds_toArray, List.set_cons_zero, List.set_cons_succ])
    refine wpAnyH_take (i := 46) (oi := { dst := some 121, op := Go.Op.pick (Go.Operand.tmp 108) (Go.Operand.const (Go.Value.bool true)) (Go.Operand.tmp 120), type := 4, pos := "more.go:64", after := #[{ on := 33, ground := Go.Ground.data }, { on := 45, ground := Go.Ground.data }, { on := 13, ground := Go.Ground.guard }], guard := some (13, true) }) (v := ?vzb30) rfl (by kernel_rfl) (by kernel_rfl) (by kernel_rfl) (fun _ _ _ h => h) (Or.inl ⟨by rfl, ?yzb30⟩) (by assumption) ?rzb30
    case yzb30 => (intro w hSw; (try dsimp only at hSw); go_simp; (try with_reducible rfl))
    (try simp only [Act.put, List.setIfInBounds_toArray, List.set_cons_zero, List.set_cons_succ])
    refine wpAnyH_take (i := 47) (oi := { dst := some 122, op := Go.Op.pick (Go.Operand.tmp 88) (Go.Operand.tmp 121) (Go.Operand.const (Go.Value.bool false)), type := 4, pos := "more.go:64", after := #[{ on := 13, ground := Go.Ground.data }, { on := 46, ground := Go.Ground.data }], guard := none }) (v := ?vzb31) rfl (by kernel_rfl) (by kernel_rfl) (by kernel_rfl) (fun _ _ _ h => h) (Or.inl ⟨by rfl, ?yzb31⟩) (by assumption) ?rzb31
    case yzb31 => (intro w hSw; (try dsimp only at hSw); go_simp; (try with_reducible rfl))
    (try simp only [Act.put, List.setIfInBounds_toArray, List.set_cons_zero, List.set_cons_succ])
    refine wpAnyH_take (i := 48) (oi := { dst := some 8, op := Go.Op.assign (Go.Operand.tmp 122), type := 4, pos := "more.go:64", after := #[{ on := 47, ground := Go.Ground.data }, { on := 41, ground := Go.Ground.chain }, { on := 0, ground := Go.Ground.phase }, { on := 1, ground := Go.Ground.phase }, { on := 2, ground := Go.Ground.phase }, { on := 3, ground := Go.Ground.phase }, { on := 4, ground := Go.Ground.phase }, { on := 5, ground := Go.Ground.phase }, { on := 6, ground := Go.Ground.phase }, { on := 7, ground := Go.Ground.phase }, { on := 8, ground := Go.Ground.phase }, { on := 9, ground := Go.Ground.phase }, { on := 10, ground := Go.Ground.phase }, { on := 11, ground := Go.Ground.phase }, { on := 12, ground := Go.Ground.phase }, { on := 13, ground := Go.Ground.phase }, { on := 14, ground := Go.Ground.phase }, { on := 15, ground := Go.Ground.phase }, { on := 16, ground := Go.Ground.phase }, { on := 17, ground := Go.Ground.phase }, { on := 18, ground := Go.Ground.phase }, { on := 19, ground := Go.Ground.phase }, { on := 20, ground := Go.Ground.phase }, { on := 21, ground := Go.Ground.phase }, { on := 22, ground := Go.Ground.phase }, { on := 23, ground := Go.Ground.phase }, { on := 24, ground := Go.Ground.phase }, { on := 25, ground := Go.Ground.phase }, { on := 26, ground := Go.Ground.phase }, { on := 27, ground := Go.Ground.phase }, { on := 28, ground := Go.Ground.phase }, { on := 29, ground := Go.Ground.phase }, { on := 30, ground := Go.Ground.phase }, { on := 31, ground := Go.Ground.phase }, { on := 32, ground := Go.Ground.phase }, { on := 33, ground := Go.Ground.phase }, { on := 34, ground := Go.Ground.phase }, { on := 35, ground := Go.Ground.phase }, { on := 36, ground := Go.Ground.phase }, { on := 37, ground := Go.Ground.phase }, { on := 38, ground := Go.Ground.phase }, { on := 39, ground := Go.Ground.phase }, { on := 40, ground := Go.Ground.phase }, { on := 41, ground := Go.Ground.phase }, { on := 42, ground := Go.Ground.phase }, { on := 43, ground := Go.Ground.phase }, { on := 44, ground := Go.Ground.phase }, { on := 45, ground := Go.Ground.phase }, { on := 46, ground := Go.Ground.phase }, { on := 47, ground := Go.Ground.phase }], guard := none }) (v := ?vzb32) rfl (by kernel_rfl) (by kernel_rfl) (by kernel_rfl) (fun _ _ _ h => h) (Or.inl ⟨by rfl, ?yzb32⟩) (by assumption) ?rzb32
    case yzb32 => (intro w hSw; (try dsimp only at hSw); go_simp; (try with_reducible rfl))
    (try simp only [Act.put, List.setIfInBounds_toArray, List.set_cons_zero, List.set_cons_succ])
    refine wpAnyH_done (by kernel_rfl) ?_ _
    go_wp2
    go_ret
    exact ⟨rfl, Z.out.trans (ZC.out.mono Z.out.size)⟩
set_option maxHeartbeats 2000000 in
theorem again_not (W D J S : Int) (A : Option Addr) (n c : Nat) (m : List Int) (f : Fr) (e : Int) (w : World) (hm : Rd w A m) (hn : m.length = n) (hs : n ≤ 500) (hf : UF f) (hu : U e) (hp : f.pc = 2) (hg : goes W D J S m f 5 5 = true) (hne : ¬ e = f.y) (hq : ¬ e / 65536 = f.x / 65536) : Tells 8 #[cf W D J S, .slice A n c, fv f, .int .u64 e] w (.bool true) := by
  obtain ⟨hk, hr, ho, h0, h4⟩ := goes_iff.1 hg
  have hlong := okw_long hk
  obtain ⟨o, p, q, v, x, y, s⟩ := f
  simp only at hr ho hp hf hk hne hq
  subst hr ho hp
  obtain ⟨m1, hm1⟩ : ∃ m1, m1 = put m 2 e := ⟨_, rfl⟩
  have hk1 : okw W D J S m1 q = true := by rw [hm1]; exact okw_put hk _ _
  have ea : at0 m1 2 = e := by rw [hm1]; exact at0_put _ (by omega) (by omega)
  have e1 := waitS_2 (v := v) (x := x) (y := y) hk1
  rw [ea, if_neg hne] at e1
  have e2 := waitS_1 (v := v) (x := x) (y := y) hk1
  rw [ea, if_neg hq] at e2
  have hn1 : m1.length = n := by rw [hm1, len_put]; exact hn
  have e3 : waitS W D J S m1 ⟨5, 0, q, 0, 0, 0, 4⟩ = (m1, ⟨5, 0, q, 0, 0, 0, 4⟩) := waitS_over (by simp)
  obtain ⟨P, hP⟩ : ∃ P, e / 65536 = P := ⟨_, rfl⟩
  have HP := Lib.hid hP
  obtain ⟨Q, hQ⟩ : ∃ Q, x / 65536 = Q := ⟨_, rfl⟩
  rw [hP, hQ] at hq
  have hpq : (P == Q) = false := by simpa using hq
  have HQ := Lib.hid hQ
  clear hQ
  have hey : (e == y) = false := by simpa using hne
  have hd : decide ((500 : Int) < (n : Int)) = false := decide_eq_false (by omega)
  have HE1 := Lib.hid e1
  have HE2 := Lib.hid e2
  have HE3 := Lib.hid e3
  have HN1 := Lib.hid hn1
  have HM1 := Lib.hid hm1
  have HU := Lib.hid hf
  have HUE := Lib.hid hu
  have HN := Lib.hid hn
  have HS := Lib.hid hs
  have HG := Lib.hid hg
  have LM0 := Lib.hid hm
  clear hP hq hne hk hk1 h0 h4 hlong ea e1 e2 e3 hn1 hm1 hf hu hn hs hg hm
  obtain ⟨BX0, BF0, Z0, hz⟩ := boxes2 w W D J S ⟨5, 2, q, v, x, y, 0⟩
  go_enter Try.func8, Try.ntmps8
  go_wp2_with fail
  change Calls _ _ _ (bxc w W D J S ⟨5, 2, q, v, x, y, 0⟩) _
  generalize bxc w W D J S ⟨5, 2, q, v, x, y, 0⟩ = w0 at BX0 BF0 Z0 hz ⊢
  refine (awake_any _).mono ?_
  rintro _ w1 ⟨rfl, z⟩
  have Z := Lib.hid (Z0.trans (z.mono (by omega)))
  have BX := Lib.hid (BX0.below z)
  have BF := Lib.hid (BF0.after z)
  have HZ0 := Lib.hid (show w.heap.size ≤ w0.heap.size by omega)
  have LM := Lib.hid (LM0.out.below Z.out)
  clear LM0
  clear z Z0 BX0 BF0 hz HZ0
  obtain ⟨gx, x_0, x_1, x_2, x_3⟩ := BX.out
  obtain ⟨a0, a1, a2, a3, a4, a5, a6⟩ := BF.out.cells
  have la := BF.out.lt
  simp only at a0 a1 a2 a3 a4 a5 a6
  go_wp2_with fail
  refine (Tells.of (goes_any W D J S 5 5 A n c m ⟨5, 2, q, v, x, y, 0⟩ _ HN.out) (v' := .bool true) (by rw [HG.out])).mono ?_
  rintro _ w2 ⟨rfl, z⟩
  clear gx x_0 x_1 x_2 x_3 a0 a1 a2 a3 a4 a5 a6 la
  replace Z := Lib.hid (Z.out.trans (z.mono Z.out.size))
  replace BX := Lib.hid (BX.out.below z)
  replace BF := Lib.hid (BF.out.after z)
  replace LM := Lib.hid (LM.out.below z)
  clear z
  obtain ⟨gx, x_0, x_1, x_2, x_3⟩ := BX.out
  obtain ⟨a0, a1, a2, a3, a4, a5, a6⟩ := BF.out.cells
  have la := BF.out.lt
  simp only at a0 a1 a2 a3 a4 a5 a6
  go_wp2_with fail
  refine (store_new A n c m 2 e _ LM.out HN.out HS.out).mono ?_
  rintro _ w3 ⟨g3, rfl, hg3, hb3, z⟩
  clear gx x_0 x_1 x_2 x_3 a0 a1 a2 a3 a4 a5 a6 la
  replace Z := Lib.hid (Z.out.trans (z.mono Z.out.size))
  replace BX := Lib.hid (BX.out.below z)
  replace BF := Lib.hid (BF.out.after z)
  replace LM := Lib.hid (LM.out.below z)
  have L1 := Lib.hid (show Rd w3 (some ⟨g3, 0, none⟩) m1 by rw [HM1.out]; exact hb3.rd)
  clear hg3 hb3 z
  obtain ⟨gx, x_0, x_1, x_2, x_3⟩ := BX.out
  obtain ⟨a0, a1, a2, a3, a4, a5, a6⟩ := BF.out.cells
  have la := BF.out.lt
  simp only at a0 a1 a2 a3 a4 a5 a6
  go_wp2_with fail
  refine (wait_n (f := ⟨5, 2, q, v, x, y, 0⟩) L1.out HN1.out HS.out HU.out HE1.out).mono ?_
  rintro _ w4 ⟨A4, c4, rfl, hn4, z⟩
  clear gx x_0 x_1 x_2 x_3 a0 a1 a2 a3 a4 a5 a6 la
  replace Z := Lib.hid (Z.out.trans (z.mono Z.out.size))
  replace BX := Lib.hid (BX.out.below z)
  replace BF := Lib.hid (BF.out.after z)
  replace LM := Lib.hid (LM.out.below z)
  replace L1 := Lib.hid (L1.out.below z)
  have LA := Lib.hid hn4.rd
  clear hn4 z
  obtain ⟨gx, x_0, x_1, x_2, x_3⟩ := BX.out
  go_wp2_with fail
  refine (wait_n (f := ⟨5, 1, q, v, x, y, 0⟩) (LA.out.alloc _) HN1.out HS.out ⟨HU.out.1, HU.out.2.1, HU.out.2.2⟩ HE2.out).mono ?_
  rintro _ w5 ⟨A5, c5, rfl, hn5, z⟩
  clear gx x_0 x_1 x_2 x_3
  have BG := Lib.hid ((Bf.new w4 ⟨5, 1, q, v, x, y, 0⟩).after z)
  replace z := keep_call z (bel_alloc w4 _)
  replace Z := Lib.hid (Z.out.trans (z.mono Z.out.size))
  replace BX := Lib.hid (BX.out.below z)
  replace BF := Lib.hid (BF.out.after z)
  replace LM := Lib.hid (LM.out.below z)
  replace L1 := Lib.hid (L1.out.below z)
  replace LA := Lib.hid (LA.out.below z)
  have LB := Lib.hid hn5.rd
  clear hn5 z
  go_upto_region 7 with fail
  obtain ⟨ws, hws⟩ : ∃ ws, ws = w5.alloc (.cells #[.int .i64 5, .int .i64 0, .int .i64 q, .int .u64 0, .int .u64 0, .int .u64 0, .int .i64 4] 28) := ⟨_, rfl⟩
  have hz := box_below w5 (.cells #[.int .i64 5, .int .i64 0, .int .i64 q, .int .u64 0, .int .u64 0, .int .u64 0, .int .i64 4] 28)
  rw [← hws] at hz
  have BH := Lib.hid (show Bf ws w5.heap.size ⟨5, 0, q, 0, 0, 0, 4⟩ by rw [hws]; exact Bf.new w5 ⟨5, 0, q, 0, 0, 0, 4⟩)
  replace BX := Lib.hid (BX.out.below hz)
  replace BF := Lib.hid (BF.out.after hz)
  replace LM := Lib.hid (LM.out.below hz)
  replace L1 := Lib.hid (L1.out.below hz)
  replace LA := Lib.hid (LA.out.below hz)
  replace BG := Lib.hid (BG.out.after hz)
  replace LB := Lib.hid (LB.out.below hz)
  replace Z := Lib.hid (Z.out.trans (hz.mono Z.out.size))
  rw [← hws]
  clear hz hws
  go_cut [15] from 62 to 67 (fun b wz => b = .bool false ∧ Hid (Below ws.heap.size ws wz))
  case first =>
    have HK := Lib.hid (show ∀ x', Below ws.heap.size ws x' → (fun w' => w'.cell? ⟨w.heap.size + 1, 4, none⟩ = some (.int .u64 x) ∧ Below ws.heap.size ws w') x' from fun x' hx => by
      obtain ⟨f0, f1, f2, f3, f4, f5, f6⟩ := (BF.out.after hx).cells
      exact ⟨f4, hx⟩)
    have hHeld0 := HK.out _ (Below.refl _ _)
    have ZC := Lib.hid (Below.refl ws.heap.size ws).drew
    refine wp_region_held_drew (S := fun w' => w'.cell? ⟨w.heap.size + 1, 4, none⟩ = some (.int .u64 x) ∧ Below ws.heap.size ws w') (by kernel_rfl) (hd_drew HK.out (fun _ h => h.2) hHeld0) (fun hHeld => ?_)
    refine wpAnyH_take (i := 0) (oi := { dst := some 62, op := Go.Op.move (Go.Operand.tmp 3), type := 26, pos := "more.go:62", after := #[], guard := none }) (v := ?vzc1) rfl (by kernel_rfl) (by kernel_rfl) (by kernel_rfl) (fun _ _ _ h => h) (Or.inl ⟨by rfl, ?yzc1⟩) (by assumption) ?rzc1
    case yzc1 => (intro w hSw; (try dsimp only at hSw); go_simp; (try with_reducible rfl))
    (try simp only [Act.put, List.setIfInBounds_toArray, List.set_cons_zero, List.set_cons_succ])
    refine wpAnyH_take (i := 2) (oi := { dst := some 64, op := Go.Op.fieldAddr 28 (Go.Operand.tmp 6) 4, type := 0, pos := "more.go:62", after := #[], guard := none }) (v := ?vzc2) rfl (by kernel_rfl) (by kernel_rfl) (by kernel_rfl) (fun _ _ _ h => h) (Or.inl ⟨by rfl, ?yzc2⟩) (by assumption) ?rzc2
    case yzc2 => (intro w hSw; (try dsimp only at hSw); go_simp; (try with_reducible rfl))
    (try simp only [Act.put, List.setIfInBounds_toArray, List.set_cons_zero, List.set_cons_succ])
    refine wpAnyH_take (i := 3) (oi := { dst := some 65, op := Go.Op.load 26 (Go.Operand.tmp 64), type := 26, pos := "more.go:62", after := #[{ on := 2, ground := Go.Ground.data }], guard := none }) (v := ?vzc3) rfl (by kernel_rfl) (by kernel_rfl) (by kernel_rfl) (fun _ _ _ h => h) (Or.inl ⟨by rfl, ?yzc3⟩) (by assumption) ?rzc3
    case yzc3 => (intro w hSw; (try dsimp only at hSw); go_simp; (try with_reducible rfl))
    (try simp only [Act.put, List.setIfInBounds_toArray, List.set_cons_zero, List.set_cons_succ])
    refine wpAnyH_ready (rs := [1]) (by kernel_rfl) (by simp) ?_
    refine (AllReadyH.cons (o := { dst := some 63, op := Go.Op.call { callee := Go.Callee.value (Go.Operand.func 21), args := #[Go.Operand.tmp 62], argTypes := #[26] }, type := 26, pos := "more.go:62", after := #[{ on := 0, ground := Go.Ground.data }], guard := none }) rfl (fun K hK => ?_) AllReadyH.nil)
    go_simp
    refine (Tells.of (epoch_any e _).tells (v' := .int .u64 P) (by rw [HP.out])).mono ?_
    rintro e wz ⟨rfl, zb⟩
    go_wp2_with fail
    replace ZC := Lib.hid (keep_call (w2 := ws) zb ZC.out)
    clear zb
    refine hK.out _ _ (HK.out _ ZC.out) (fun hHeld2 => ?_)
    clear hK K hHeld
    have hHeld := hHeld2
    clear hHeld2
    (try simp only [Act.put, List.setIfInBounds_toArray, List.set_cons_zero, List.set_cons_succ])
    refine wpAnyH_ready (rs := [4]) (by kernel_rfl) (by simp) ?_
    refine (AllReadyH.cons (o := { dst := some 66, op := Go.Op.call { callee := Go.Callee.value (Go.Operand.func 21), args := #[Go.Operand.tmp 65], argTypes := #[26] }, type := 26, pos := "more.go:62", after := #[{ on := 3, ground := Go.Ground.data }, { on := 1, ground := Go.Ground.chain }], guard := none }) rfl (fun K hK => ?_) AllReadyH.nil)
    go_simp
    refine (Tells.of (epoch_any x _).tells (v' := .int .u64 Q) (by rw [HQ.out])).mono ?_
    rintro e wz ⟨rfl, zb⟩
    go_wp2_with fail
    replace ZC := Lib.hid (keep_call (w2 := ws) zb ZC.out)
    clear zb
    refine hK.out _ _ (HK.out _ ZC.out) (fun hHeld2 => ?_)
    clear hK K hHeld
    have hHeld := hHeld2
    clear hHeld2
    (try simp only [Act.put, List.setIfInBounds_toArray, List.set_cons_zero, List.set_cons_succ])
    refine wpAnyH_take (i := 5) (oi := { dst := some 67, op := Go.Op.binOp Go.BinOp.eql 26 (Go.Operand.tmp 63) (Go.Operand.tmp 66) 26, type := 4, pos := "more.go:62", after := #[{ on := 1, ground := Go.Ground.data }, { on := 4, ground := Go.Ground.data }], guard := none }) (v := ?vzc4) rfl (by kernel_rfl) (by kernel_rfl) (by kernel_rfl) (fun _ _ _ h => h) (Or.inl ⟨by rfl, ?yzc4⟩) (by assumption) ?rzc4
    case yzc4 => (intro w hSw; (try dsimp only at hSw); go_simp; (try with_reducible rfl))
    (try simp only [Act.put, List.setIfInBounds_toArray, List.set_cons_zero, List.set_cons_succ])
    refine wpAnyH_take (i := 6) (oi := { dst := some 15, op := Go.Op.assign (Go.Operand.tmp 67), type := 4, pos := "more.go:62", after := #[{ on := 5, ground := Go.Ground.data }, { on := 4, ground := Go.Ground.chain }, { on := 0, ground := Go.Ground.phase }, { on := 1, ground := Go.Ground.phase }, { on := 2, ground := Go.Ground.phase }, { on := 3, ground := Go.Ground.phase }, { on := 4, ground := Go.Ground.phase }, { on := 5, ground := Go.Ground.phase }], guard := none }) (v := ?vzc5) rfl (by kernel_rfl) (by kernel_rfl) (by kernel_rfl) (fun _ _ _ h => h) (Or.inl ⟨by rfl, ?yzc5⟩) (by assumption) ?rzc5
    case yzc5 => (intro w hSw; (try dsimp only at hSw); go_simp; (try with_reducible rfl))
    (try simp only [Act.put, List.setIfInBounds_toArray, List.set_cons_zero, List.set_cons_succ])
    refine wpAnyH_done (by kernel_rfl) ?_ _
    go_wp2_with fail
    go_meet
    exact ⟨rfl, ZC⟩
  case rest =>
    obtain ⟨rfl, ZC⟩ := hcut
    replace BX := Lib.hid (BX.out.below ZC.out)
    replace BF := Lib.hid (BF.out.after ZC.out)
    replace LM := Lib.hid (LM.out.below ZC.out)
    replace L1 := Lib.hid (L1.out.below ZC.out)
    replace LA := Lib.hid (LA.out.below ZC.out)
    replace BG := Lib.hid (BG.out.after ZC.out)
    replace LB := Lib.hid (LB.out.below ZC.out)
    replace BH := Lib.hid (BH.out.after ZC.out)
    replace Z := Lib.hid (Z.out.trans (ZC.out.mono Z.out.size))
    clear ZC
    obtain ⟨gx, x_0, x_1, x_2, x_3⟩ := BX.out
    obtain ⟨d0, d1, d2, d3, d4, d5, d6⟩ := BH.out.cells
    have ld := BH.out.lt
    simp only at d0 d1 d2 d3 d4 d5 d6
    go_wp2_with fail
    refine (wait_n (f := ⟨5, 0, q, 0, 0, 0, 4⟩) LB.out HN1.out HS.out ⟨U0, U0, U0⟩ HE3.out).mono ?_
    rintro _ w7 ⟨A7, c7, rfl, hn7, z⟩
    clear gx x_0 x_1 x_2 x_3 d0 d1 d2 d3 d4 d5 d6 ld
    replace Z := Lib.hid (Z.out.trans (z.mono Z.out.size))
    replace BX := Lib.hid (BX.out.below z)
    replace BF := Lib.hid (BF.out.after z)
    replace LM := Lib.hid (LM.out.below z)
    replace L1 := Lib.hid (L1.out.below z)
    replace LA := Lib.hid (LA.out.below z)
    replace BG := Lib.hid (BG.out.after z)
    replace LB := Lib.hid (LB.out.below z)
    replace BH := Lib.hid (BH.out.after z)
    have LC := Lib.hid hn7.rd
    clear hn7 z
    go_upto_region 9 with fail
    obtain ⟨wk, hws⟩ : ∃ wk, wk = w7.alloc (.cells #[.int .i64 5, .int .i64 0, .int .i64 q, .int .u64 0, .int .u64 0, .int .u64 0, .int .i64 4] 28) := ⟨_, rfl⟩
    have hz := box_below w7 (.cells #[.int .i64 5, .int .i64 0, .int .i64 q, .int .u64 0, .int .u64 0, .int .u64 0, .int .i64 4] 28)
    rw [← hws] at hz
    have BK := Lib.hid (show Bf wk w7.heap.size ⟨5, 0, q, 0, 0, 0, 4⟩ by rw [hws]; exact Bf.new w7 ⟨5, 0, q, 0, 0, 0, 4⟩)
    replace BX := Lib.hid (BX.out.below hz)
    replace BF := Lib.hid (BF.out.after hz)
    replace LM := Lib.hid (LM.out.below hz)
    replace L1 := Lib.hid (L1.out.below hz)
    replace LA := Lib.hid (LA.out.below hz)
    replace BG := Lib.hid (BG.out.after hz)
    replace LB := Lib.hid (LB.out.below hz)
    replace BH := Lib.hid (BH.out.after hz)
    replace LC := Lib.hid (LC.out.below hz)
    replace Z := Lib.hid (Z.out.trans (hz.mono Z.out.size))
    rw [← hws]
    clear hz hws
    have HK := Lib.hid (show ∀ x', Below wk.heap.size wk x' → (fun w' => w'.cell? ⟨w.heap.size + 1, 2, none⟩ = some (.int .i64 q) ∧ w'.cell? ⟨w4.heap.size, 1, none⟩ = some (.int .i64 1) ∧ w'.cell? ⟨w5.heap.size, 0, none⟩ = some (.int .i64 5) ∧ w'.cell? ⟨w5.heap.size, 1, none⟩ = some (.int .i64 0) ∧ w'.cell? ⟨w5.heap.size, 2, none⟩ = some (.int .i64 q) ∧ w'.cell? ⟨w5.heap.size, 3, none⟩ = some (.int .u64 0) ∧ w'.cell? ⟨w5.heap.size, 4, none⟩ = some (.int .u64 0) ∧ w'.cell? ⟨w5.heap.size, 5, none⟩ = some (.int .u64 0) ∧ w'.cell? ⟨w5.heap.size, 6, none⟩ = some (.int .i64 4) ∧ w'.cell? ⟨w7.heap.size, 0, none⟩ = some (.int .i64 5) ∧ w'.cell? ⟨w7.heap.size, 1, none⟩ = some (.int .i64 0) ∧ w'.cell? ⟨w7.heap.size, 2, none⟩ = some (.int .i64 q) ∧ w'.cell? ⟨w7.heap.size, 3, none⟩ = some (.int .u64 0) ∧ w'.cell? ⟨w7.heap.size, 4, none⟩ = some (.int .u64 0) ∧ w'.cell? ⟨w7.heap.size, 5, none⟩ = some (.int .u64 0) ∧ w'.cell? ⟨w7.heap.size, 6, none⟩ = some (.int .i64 4) ∧ Below wk.heap.size wk w') x' from fun x' hx => by
      obtain ⟨f0, f1, f2, f3, f4, f5, f6⟩ := (BF.out.after hx).cells
      obtain ⟨g0, g1, g2, g3, g4, g5, g6⟩ := (BG.out.after hx).cells
      obtain ⟨h0, h1, h2, h3, h4, h5, h6⟩ := (BH.out.after hx).cells
      obtain ⟨k0, k1, k2, k3, k4, k5, k6⟩ := (BK.out.after hx).cells
      exact ⟨f2, g1, h0, h1, h2, h3, h4, h5, h6, k0, k1, k2, k3, k4, k5, k6, hx⟩)
    have hHeld0 := HK.out _ (Below.refl _ _)
    have ZC := Lib.hid (Below.refl wk.heap.size wk).drew
    refine wp_region_held_drew (S := fun w' => w'.cell? ⟨w.heap.size + 1, 2, none⟩ = some (.int .i64 q) ∧ w'.cell? ⟨w4.heap.size, 1, none⟩ = some (.int .i64 1) ∧ w'.cell? ⟨w5.heap.size, 0, none⟩ = some (.int .i64 5) ∧ w'.cell? ⟨w5.heap.size, 1, none⟩ = some (.int .i64 0) ∧ w'.cell? ⟨w5.heap.size, 2, none⟩ = some (.int .i64 q) ∧ w'.cell? ⟨w5.heap.size, 3, none⟩ = some (.int .u64 0) ∧ w'.cell? ⟨w5.heap.size, 4, none⟩ = some (.int .u64 0) ∧ w'.cell? ⟨w5.heap.size, 5, none⟩ = some (.int .u64 0) ∧ w'.cell? ⟨w5.heap.size, 6, none⟩ = some (.int .i64 4) ∧ w'.cell? ⟨w7.heap.size, 0, none⟩ = some (.int .i64 5) ∧ w'.cell? ⟨w7.heap.size, 1, none⟩ = some (.int .i64 0) ∧ w'.cell? ⟨w7.heap.size, 2, none⟩ = some (.int .i64 q) ∧ w'.cell? ⟨w7.heap.size, 3, none⟩ = some (.int .u64 0) ∧ w'.cell? ⟨w7.heap.size, 4, none⟩ = some (.int .u64 0) ∧ w'.cell? ⟨w7.heap.size, 5, none⟩ = some (.int .u64 0) ∧ w'.cell? ⟨w7.heap.size, 6, none⟩ = some (.int .i64 4) ∧ Below wk.heap.size wk w') (by kernel_rfl) (hd_drew HK.out (fun _ h => h.2.2.2.2.2.2.2.2.2.2.2.2.2.2.2.2) hHeld0) (fun hHeld => ?_)
    refine wpAnyH_take (i := 0) (oi := { dst := some 75, op := Go.Op.move (Go.Operand.tmp 11), type := 25, pos := "more.go:64", after := #[], guard := none }) (v := ?vzd1) rfl (by kernel_rfl) (by kernel_rfl) (by kernel_rfl) (fun _ _ _ h => h) (Or.inl ⟨by rfl, ?yzd1⟩) (by assumption) ?rzd1
    case yzd1 => (intro w hSw; (try dsimp only at hSw); go_simp; (try with_reducible rfl))
    (try simp only [Act.put, List.setIfInBounds_toArray, List.set_cons_zero, List.set_cons_succ])
    refine wpAnyH_take (i := 1) (oi := { dst := some 76, op := Go.Op.move (Go.Operand.tmp 10), type := 25, pos := "more.go:64", after := #[], guard := none }) (v := ?vzd2) rfl (by kernel_rfl) (by kernel_rfl) (by kernel_rfl) (fun _ _ _ h => h) (Or.inl ⟨by rfl, ?yzd2⟩) (by assumption) ?rzd2
    case yzd2 => (intro w hSw; (try dsimp only at hSw); go_simp; (try with_reducible rfl))
    (try simp only [Act.put, List.setIfInBounds_toArray, List.set_cons_zero, List.set_cons_succ])
    refine wpAnyH_ready (rs := [2]) (by kernel_rfl) (by simp) ?_
    refine (AllReadyH.cons (o := { dst := some 77, op := Go.Op.call { callee := Go.Callee.value (Go.Operand.func 23), args := #[Go.Operand.tmp 75, Go.Operand.tmp 76], argTypes := #[25, 25] }, type := 4, pos := "more.go:64", after := #[{ on := 0, ground := Go.Ground.data }, { on := 1, ground := Go.Ground.data }], guard := none }) rfl (fun K hK => ?_) AllReadyH.nil)
    go_simp
    refine (ret_of (same_any A4 (some ⟨g3, 0, none⟩) n c4 n n m1 m1 _ (LA.out.below ZC.out) (L1.out.below ZC.out) HN1.out HN1.out (by have := HS.out; omega)) (v' := .bool true) (by simp)).mono ?_
    rintro e wz ⟨rfl, zb⟩
    go_wp2_with fail
    replace ZC := Lib.hid (keep_call (w2 := wk) zb ZC.out)
    clear zb
    refine hK.out _ _ (HK.out _ ZC.out) (fun hHeld2 => ?_)
    clear hK K hHeld
    have hHeld := hHeld2
    clear hHeld2
    (try simp only [Act.put, List.setIfInBounds_toArray, List.set_cons_zero, List.set_cons_succ])
    refine wpAnyH_take (i := 3) (oi := { dst := some 78, op := Go.Op.move (Go.Operand.tmp 77), type := 4, pos := "more.go:64", after := #[{ on := 2, ground := Go.Ground.data }, { on := 2, ground := Go.Ground.chain }], guard := none }) (v := ?vzd3) rfl (by kernel_rfl) (by kernel_rfl) (by kernel_rfl) (fun _ _ _ h => h) (Or.inl ⟨by rfl, ?yzd3⟩) (by assumption) ?rzd3
    case yzd3 => (intro w hSw; (try dsimp only at hSw); go_simp; (try with_reducible rfl))
    (try simp only [Act.put, List.setIfInBounds_toArray, List.set_cons_zero, List.set_cons_succ])
    refine wpAnyH_take (i := 4) (oi := { dst := some 79, op := Go.Op.fieldAddr 28 (Go.Operand.tmp 12) 1, type := 0, pos := "more.go:64", after := #[{ on := 3, ground := Go.Ground.guard }], guard := some (3, true) }) (v := ?vzd4) rfl (by kernel_rfl) (by kernel_rfl) (by kernel_rfl) (fun _ _ _ h => h) (Or.inl ⟨by rfl, ?yzd4⟩) (by assumption) ?rzd4
    case yzd4 => (intro w hSw; (try dsimp only at hSw); go_simp; (try with_reducible rfl))
    (try simp only [Act.put, List.setIfInBounds_toArray, List.set_cons_zero, List.set_cons_succ])
    refine wpAnyH_take (i := 5) (oi := { dst := some 80, op := Go.Op.load 3 (Go.Operand.tmp 79), type := 3, pos := "more.go:64", after := #[{ on := 4, ground := Go.Ground.data }, { on := 3, ground := Go.Ground.guard }], guard := some (3, true) }) (v := ?vzd5) rfl (by kernel_rfl) (by kernel_rfl) (by kernel_rfl) (fun _ _ _ h => h) (Or.inl ⟨by rfl, ?yzd5⟩) (by assumption) ?rzd5
    case yzd5 => (intro w hSw; (try dsimp only at hSw); go_simp; (try with_reducible rfl))
    (try simp only [Act.put, List.setIfInBounds_toArray, List.set_cons_zero, List.set_cons_succ])
    refine wpAnyH_take (i := 6) (oi := { dst := some 81, op := Go.Op.binOp Go.BinOp.eql 3 (Go.Operand.tmp 80) (Go.Operand.const (Go.Value.int Go.IntKind.i64 1)) 3, type := 4, pos := "more.go:64", after := #[{ on := 5, ground := Go.Ground.data }, { on := 3, ground := Go.Ground.guard }], guard := some (3, true) }) (v := ?vzd6) rfl (by kernel_rfl) (by kernel_rfl) (by kernel_rfl) (fun _ _ _ h => h) (Or.inl ⟨by rfl, ?yzd6⟩) (by assumption) ?rzd6
    case yzd6 => (intro w hSw; (try dsimp only at hSw); go_simp; (try with_reducible rfl))
    (try simp only [Act.put, List.setIfInBounds_toArray, List.set_cons_zero, List.set_cons_succ])
    refine wpAnyH_take (i := 7) (oi := { dst := some 82, op := Go.Op.pick (Go.Operand.tmp 78) (Go.Operand.tmp 81) (Go.Operand.const (Go.Value.bool false)), type := 4, pos := "more.go:64", after := #[{ on := 3, ground := Go.Ground.data }, { on := 6, ground := Go.Ground.data }], guard := none }) (v := ?vzd7) rfl (by kernel_rfl) (by kernel_rfl) (by kernel_rfl) (fun _ _ _ h => h) (Or.inl ⟨by rfl, ?yzd7⟩) (by assumption) ?rzd7
    case yzd7 => (intro w hSw; (try dsimp only at hSw); go_simp; (try with_reducible rfl))
    (try simp only [Act.put, List.setIfInBounds_toArray, List.set_cons_zero, List.set_cons_succ])
    refine wpAnyH_take (i := 8) (oi := { dst := some 83, op := Go.Op.move (Go.Operand.tmp 82), type := 4, pos := "more.go:64", after := #[{ on := 7, ground := Go.Ground.data }, { on := 3, ground := Go.Ground.chain }], guard := none }) (v := ?vzd8) rfl (by kernel_rfl) (by kernel_rfl) (by kernel_rfl) (fun _ _ _ h => h) (Or.inl ⟨by rfl, ?yzd8⟩) (by assumption) ?rzd8
    case yzd8 => (intro w hSw; (try dsimp only at hSw); go_simp; (try with_reducible rfl))
    (try simp only [Act.put, List.setIfInBounds_toArray, List.set_cons_zero, List.set_cons_succ])
    refine wpAnyH_take (i := 9) (oi := { dst := some 84, op := Go.Op.move (Go.Operand.tmp 13), type := 25, pos := "more.go:64", after := #[{ on := 8, ground := Go.Ground.guard }], guard := some (8, true) }) (v := ?vzd9) rfl (by kernel_rfl) (by kernel_rfl) (by kernel_rfl) (fun _ _ _ h => h) (Or.inl ⟨by rfl, ?yzd9⟩) (by assumption) ?rzd9
    case yzd9 => (intro w hSw; (try dsimp only at hSw); go_simp; (try with_reducible rfl))
    (try simp only [Act.put, List.setIfInBounds_toArray, List.set_cons_zero, List.set_cons_succ])
    refine wpAnyH_take (i := 10) (oi := { dst := some 85, op := Go.Op.move (Go.Operand.tmp 10), type := 25, pos := "more.go:64", after := #[{ on := 8, ground := Go.Ground.guard }], guard := some (8, true) }) (v := ?vzd10) rfl (by kernel_rfl) (by kernel_rfl) (by kernel_rfl) (fun _ _ _ h => h) (Or.inl ⟨by rfl, ?yzd10⟩) (by assumption) ?rzd10
    case yzd10 => (intro w hSw; (try dsimp only at hSw); go_simp; (try with_reducible rfl))
    (try simp only [Act.put, List.setIfInBounds_toArray, List.set_cons_zero, List.set_cons_succ])
    refine wpAnyH_ready (rs := [11]) (by kernel_rfl) (by simp) ?_
    refine (AllReadyH.cons (o := { dst := some 86, op := Go.Op.call { callee := Go.Callee.value (Go.Operand.func 23), args := #[Go.Operand.tmp 84, Go.Operand.tmp 85], argTypes := #[25, 25] }, type := 4, pos := "more.go:64", after := #[{ on := 9, ground := Go.Ground.data }, { on := 10, ground := Go.Ground.data }, { on := 8, ground := Go.Ground.chain }, { on := 8, ground := Go.Ground.guard }], guard := some (8, true) }) rfl (fun K hK => ?_) AllReadyH.nil)
    go_simp
    refine (ret_of (same_any A5 (some ⟨g3, 0, none⟩) n c5 n n m1 m1 _ (LB.out.below ZC.out) (L1.out.below ZC.out) HN1.out HN1.out (by have := HS.out; omega)) (v' := .bool true) (by simp)).mono ?_
    rintro e wz ⟨rfl, zb⟩
    go_wp2_with fail
    replace ZC := Lib.hid (keep_call (w2 := wk) zb ZC.out)
    clear zb
    refine hK.out _ _ (HK.out _ ZC.out) (fun hHeld2 => ?_)
    clear hK K hHeld
    have hHeld := hHeld2
    clear hHeld2
    (try simp only [Act.put, List.setIfInBounds_toArray, List.set_cons_zero, List.set_cons_succ])
    refine wpAnyH_take (i := 12) (oi := { dst := some 87, op := Go.Op.pick (Go.Operand.tmp 83) (Go.Operand.tmp 86) (Go.Operand.const (Go.Value.bool false)), type := 4, pos := "more.go:64", after := #[{ on := 8, ground := Go.Ground.data }, { on := 11, ground := Go.Ground.data }], guard := none }) (v := ?vzd11) rfl (by kernel_rfl) (by kernel_rfl) (by kernel_rfl) (fun _ _ _ h => h) (Or.inl ⟨by rfl, ?yzd11⟩) (by assumption) ?rzd11
    case yzd11 => (intro w hSw; (try dsimp only at hSw); go_simp; (try with_reducible rfl))
    (try simp only [Act.put, List.setIfInBounds_toArray, List.set_cons_zero, List.set_cons_succ])
    refine wpAnyH_take (i := 13) (oi := { dst := some 88, op := Go.Op.move (Go.Operand.tmp 87), type := 4, pos := "more.go:64", after := #[{ on := 12, ground := Go.Ground.data }, { on := 11, ground := Go.Ground.chain }], guard := none }) (v := ?vzd12) rfl (by kernel_rfl) (by kernel_rfl) (by kernel_rfl) (fun _ _ _ h => h) (Or.inl ⟨by rfl, ?yzd12⟩) (by assumption) ?rzd12
    case yzd12 => (intro w hSw; (try dsimp only at hSw); go_simp; (try with_reducible rfl))
    (try simp only [Act.put, List.setIfInBounds_toArray, List.set_cons_zero, List.set_cons_succ])
    refine wpAnyH_take (i := 14) (oi := { dst := some 89, op := Go.Op.move (Go.Operand.tmp 15), type := 4, pos := "more.go:64", after := #[{ on := 13, ground := Go.Ground.guard }], guard := some (13, true) }) (v := ?vzd13) rfl (by kernel_rfl) (by kernel_rfl) (by kernel_rfl) (fun _ _ _ h => h) (Or.inl ⟨by rfl, ?yzd13⟩) (by assumption) ?rzd13
    case yzd13 => (intro w hSw; (try dsimp only at hSw); go_simp; (try with_reducible rfl))
    (try simp only [Act.put, List.setIfInBounds_toArray, List.set_cons_zero, List.set_cons_succ])
    refine wpAnyH_take (i := 15) (oi := { dst := some 90, op := Go.Op.move (Go.Operand.tmp 89), type := 4, pos := "more.go:64", after := #[{ on := 14, ground := Go.Ground.data }, { on := 13, ground := Go.Ground.chain }, { on := 13, ground := Go.Ground.guard }], guard := some (13, true) }) (v := ?vzd14) rfl (by kernel_rfl) (by kernel_rfl) (by kernel_rfl) (fun _ _ _ h => h) (Or.inl ⟨by rfl, ?yzd14⟩) (by assumption) ?rzd14
    case yzd14 => (intro w hSw; (try dsimp only at hSw); go_simp; (try with_reducible rfl))
    (try simp only [Act.put, List.setIfInBounds_toArray, List.set_cons_zero, List.set_cons_succ])
    refine wpAnyH_take (i := 16) (oi := { dst := some 91, op := Go.Op.fieldAddr 28 (Go.Operand.tmp 14) 1, type := 0, pos := "more.go:64", after := #[{ on := 15, ground := Go.Ground.guard }], guard := some (15, true) }) (v := undef) rfl (by kernel_rfl) (by kernel_rfl) (by kernel_rfl) (fun _ _ _ h => h) (Or.inr ⟨by rfl, rfl⟩) (by assumption) ?_
    (try simp only [Act.put, List.setIfInBounds_toArray, List.set_cons_zero, List.set_cons_succ])
    refine wpAnyH_take (i := 17) (oi := { dst := some 92, op := Go.Op.load 3 (Go.Operand.tmp 91), type := 3, pos := "more.go:64", after := #[{ on := 16, ground := Go.Ground.data }, { on := 15, ground := Go.Ground.guard }], guard := some (15, true) }) (v := undef) rfl (by kernel_rfl) (by kernel_rfl) (by kernel_rfl) (fun _ _ _ h => h) (Or.inr ⟨by rfl, rfl⟩) (by assumption) ?_
    (try simp only [Act.put, List.setIfInBounds_toArray, List.set_cons_zero, List.set_cons_succ])
    refine wpAnyH_take (i := 18) (oi := { dst := some 93, op := Go.Op.binOp Go.BinOp.eql 3 (Go.Operand.tmp 92) (Go.Operand.const (Go.Value.int Go.IntKind.i64 2)) 3, type := 4, pos := "more.go:64", after := #[{ on := 17, ground := Go.Ground.data }, { on := 15, ground := Go.Ground.guard }], guard := some (15, true) }) (v := undef) rfl (by kernel_rfl) (by kernel_rfl) (by kernel_rfl) (fun _ _ _ h => h) (Or.inr ⟨by rfl, rfl⟩) (by assumption) ?_
    (try simp only [Act.put, List.setIfInBounds_toArray, List.set_cons_zero, List.set_cons_succ])
    refine wpAnyH_take (i := 19) (oi := { dst := some 94, op := Go.Op.pick (Go.Operand.tmp 90) (Go.Operand.tmp 93) (Go.Operand.const (Go.Value.bool false)), type := 4, pos := "more.go:64", after := #[{ on := 15, ground := Go.Ground.data }, { on := 18, ground := Go.Ground.data }, { on := 13, ground := Go.Ground.guard }], guard := some (13, true) }) (v := ?vzd15) rfl (by kernel_rfl) (by kernel_rfl) (by kernel_rfl) (fun _ _ _ h => h) (Or.inl ⟨by rfl, ?yzd15⟩) (by assumption) ?rzd15
    case yzd15 => (intro w hSw; (try dsimp only at hSw); go_simp; (try with_reducible rfl))
    (try simp only [Act.put, List.setIfInBounds_toArray, List.set_cons_zero, List.set_cons_succ])
    refine wpAnyH_take (i := 20) (oi := { dst := some 95, op := Go.Op.move (Go.Operand.tmp 94), type := 4, pos := "more.go:64", after := #[{ on := 19, ground := Go.Ground.data }, { on := 15, ground := Go.Ground.chain }, { on := 13, ground := Go.Ground.guard }], guard := some (13, true) }) (v := ?vzd16) rfl (by kernel_rfl) (by kernel_rfl) (by kernel_rfl) (fun _ _ _ h => h) (Or.inl ⟨by rfl, ?yzd16⟩) (by assumption) ?rzd16
    case yzd16 => (intro w hSw; (try dsimp only at hSw); go_simp; (try with_reducible rfl))
    (try simp only [Act.put, List.setIfInBounds_toArray, List.set_cons_zero, List.set_cons_succ])
    refine wpAnyH_take (i := 21) (oi := { dst := some 96, op := Go.Op.load 28 (Go.Operand.tmp 17), type := 28, pos := "more.go:64", after := #[{ on := 20, ground := Go.Ground.guard }], guard := some (20, true) }) (v := undef) rfl (by kernel_rfl) (by kernel_rfl) (by kernel_rfl) (fun _ _ _ h => h) (Or.inr ⟨by rfl, rfl⟩) (by assumption) ?_
    (try simp only [Act.put, List.setIfInBounds_toArray, List.set_cons_zero, List.set_cons_succ])
    refine wpAnyH_take (i := 22) (oi := { dst := some 97, op := Go.Op.call { callee := Go.Callee.value (Go.Operand.func 15), args := #[Go.Operand.tmp 96], argTypes := #[28] }, type := 4, pos := "more.go:64", after := #[{ on := 21, ground := Go.Ground.data }, { on := 20, ground := Go.Ground.chain }, { on := 20, ground := Go.Ground.guard }], guard := some (20, true) }) (v := undef) rfl (by kernel_rfl) (by kernel_rfl) (by kernel_rfl) (fun _ _ _ h => h) (Or.inr ⟨by rfl, rfl⟩) (by assumption) ?_
    (try simp only [Act.put, List.setIfInBounds_toArray, List.set_cons_zero, List.set_cons_succ])
    refine wpAnyH_take (i := 23) (oi := { dst := some 98, op := Go.Op.pick (Go.Operand.tmp 95) (Go.Operand.tmp 97) (Go.Operand.const (Go.Value.bool false)), type := 4, pos := "more.go:64", after := #[{ on := 20, ground := Go.Ground.data }, { on := 22, ground := Go.Ground.data }, { on := 13, ground := Go.Ground.guard }], guard := some (13, true) }) (v := ?vzd17) rfl (by kernel_rfl) (by kernel_rfl) (by kernel_rfl) (fun _ _ _ h => h) (Or.inl ⟨by rfl, ?yzd17⟩) (by assumption) ?rzd17
    case yzd17 => (intro w hSw; (try dsimp only at hSw); go_simp; (try with_reducible rfl))
    (try simp only [Act.put, List.setIfInBounds_toArray, List.set_cons_zero, List.set_cons_succ])
    refine wpAnyH_take (i := 24) (oi := { dst := some 99, op := Go.Op.move (Go.Operand.tmp 98), type := 4, pos := "more.go:64", after := #[{ on := 23, ground := Go.Ground.data }, { on := 22, ground := Go.Ground.chain }, { on := 13, ground := Go.Ground.guard }], guard := some (13, true) }) (v := ?vzd18) rfl (by kernel_rfl) (by kernel_rfl) (by kernel_rfl) (fun _ _ _ h => h) (Or.inl ⟨by rfl, ?yzd18⟩) (by assumption) ?rzd18
    case yzd18 => (intro w hSw; (try dsimp only at hSw); go_simp; (try with_reducible rfl))
    (try simp only [Act.put, List.setIfInBounds_toArray, List.set_cons_zero, List.set_cons_succ])
    refine wpAnyH_take (i := 25) (oi := { dst := some 100, op := Go.Op.move (Go.Operand.tmp 16), type := 25, pos := "more.go:64", after := #[{ on := 24, ground := Go.Ground.guard }], guard := some (24, true) }) (v := undef) rfl (by kernel_rfl) (by kernel_rfl) (by kernel_rfl) (fun _ _ _ h => h) (Or.inr ⟨by rfl, rfl⟩) (by assumption) ?_
    (try simp only [Act.put, List.setIfInBounds_toArray, List.set_cons_zero, List.set_cons_succ])
    refine wpAnyH_take (i := 26) (oi := { dst := some 101, op := Go.Op.call { callee := Go.Callee.value (Go.Operand.func 22), args := #[Go.Operand.tmp 100, Go.Operand.const (Go.Value.int Go.IntKind.i64 2)], argTypes := #[25, 3] }, type := 26, pos := "more.go:64", after := #[{ on := 25, ground := Go.Ground.data }, { on := 24, ground := Go.Ground.chain }, { on := 24, ground := Go.Ground.guard }], guard := some (24, true) }) (v := undef) rfl (by kernel_rfl) (by kernel_rfl) (by kernel_rfl) (fun _ _ _ h => h) (Or.inr ⟨by rfl, rfl⟩) (by assumption) ?_
    (try simp only [Act.put, List.setIfInBounds_toArray, List.set_cons_zero, List.set_cons_succ])
    refine wpAnyH_take (i := 27) (oi := { dst := some 102, op := Go.Op.move (Go.Operand.tmp 3), type := 26, pos := "more.go:64", after := #[{ on := 24, ground := Go.Ground.guard }], guard := some (24, true) }) (v := undef) rfl (by kernel_rfl) (by kernel_rfl) (by kernel_rfl) (fun _ _ _ h => h) (Or.inr ⟨by rfl, rfl⟩) (by assumption) ?_
    (try simp only [Act.put, List.setIfInBounds_toArray, List.set_cons_zero, List.set_cons_succ])
    refine wpAnyH_take (i := 28) (oi := { dst := some 103, op := Go.Op.fieldAddr 28 (Go.Operand.tmp 6) 2, type := 0, pos := "more.go:64", after := #[{ on := 24, ground := Go.Ground.guard }], guard := some (24, true) }) (v := undef) rfl (by kernel_rfl) (by kernel_rfl) (by kernel_rfl) (fun _ _ _ h => h) (Or.inr ⟨by rfl, rfl⟩) (by assumption) ?_
    (try simp only [Act.put, List.setIfInBounds_toArray, List.set_cons_zero, List.set_cons_succ])
    refine wpAnyH_take (i := 29) (oi := { dst := some 104, op := Go.Op.load 3 (Go.Operand.tmp 103), type := 3, pos := "more.go:64", after := #[{ on := 28, ground := Go.Ground.data }, { on := 24, ground := Go.Ground.guard }], guard := some (24, true) }) (v := undef) rfl (by kernel_rfl) (by kernel_rfl) (by kernel_rfl) (fun _ _ _ h => h) (Or.inr ⟨by rfl, rfl⟩) (by assumption) ?_
    (try simp only [Act.put, List.setIfInBounds_toArray, List.set_cons_zero, List.set_cons_succ])
    refine wpAnyH_take (i := 30) (oi := { dst := some 105, op := Go.Op.call { callee := Go.Callee.value (Go.Operand.func 24), args := #[Go.Operand.tmp 102, Go.Operand.tmp 104], argTypes := #[26, 3] }, type := 26, pos := "more.go:64", after := #[{ on := 27, ground := Go.Ground.data }, { on := 29, ground := Go.Ground.data }, { on := 26, ground := Go.Ground.chain }, { on := 24, ground := Go.Ground.guard }], guard := some (24, true) }) (v := undef) rfl (by kernel_rfl) (by kernel_rfl) (by kernel_rfl) (fun _ _ _ h => h) (Or.inr ⟨by rfl, rfl⟩) (by assumption) ?_
    (try simp only [Act.put, List.setIfInBounds_toArray, List.set_cons_zero, List.set_cons_succ])
    refine wpAnyH_take (i := 31) (oi := { dst := some 106, op := Go.Op.binOp Go.BinOp.eql 26 (Go.Operand.tmp 101) (Go.Operand.tmp 105) 26, type := 4, pos := "more.go:64", after := #[{ on := 26, ground := Go.Ground.data }, { on := 30, ground := Go.Ground.data }, { on := 24, ground := Go.Ground.guard }], guard := some (24, true) }) (v := undef) rfl (by kernel_rfl) (by kernel_rfl) (by kernel_rfl) (fun _ _ _ h => h) (Or.inr ⟨by rfl, rfl⟩) (by assumption) ?_
    (try simp only [Act.put, List.setIfInBounds_toArray, List.set_cons_zero, List.set_cons_succ])
    refine wpAnyH_take (i := 32) (oi := { dst := some 107, op := Go.Op.pick (Go.Operand.tmp 99) (Go.Operand.tmp 106) (Go.Operand.const (Go.Value.bool false)), type := 4, pos := "more.go:64", after := #[{ on := 24, ground := Go.Ground.data }, { on := 31, ground := Go.Ground.data }, { on := 13, ground := Go.Ground.guard }], guard := some (13, true) }) (v := ?vzd19) rfl (by kernel_rfl) (by kernel_rfl) (by kernel_rfl) (fun _ _ _ h => h) (Or.inl ⟨by rfl, ?yzd19⟩) (by assumption) ?rzd19
    case yzd19 => (intro w hSw; (try dsimp only at hSw); go_simp; (try with_reducible rfl))
    (try simp only [Act.put, List.setIfInBounds_toArray, List.set_cons_zero, List.set_cons_succ])
    refine wpAnyH_take (i := 33) (oi := { dst := some 108, op := Go.Op.move (Go.Operand.tmp 107), type := 4, pos := "more.go:64", after := #[{ on := 32, ground := Go.Ground.data }, { on := 30, ground := Go.Ground.chain }, { on := 13, ground := Go.Ground.guard }], guard := some (13, true) }) (v := ?vzd20) rfl (by kernel_rfl) (by kernel_rfl) (by kernel_rfl) (fun _ _ _ h => h) (Or.inl ⟨by rfl, ?yzd20⟩) (by assumption) ?rzd20
    case yzd20 => (intro w hSw; (try dsimp only at hSw); go_simp; (try with_reducible rfl))
    (try simp only [Act.put, List.setIfInBounds_toArray, List.set_cons_zero, List.set_cons_succ])
    refine wpAnyH_take (i := 34) (oi := { dst := some 109, op := Go.Op.move (Go.Operand.tmp 15), type := 4, pos := "more.go:64", after := #[{ on := 33, ground := Go.Ground.guard }], guard := some (33, false) }) (v := ?vzd21) rfl (by kernel_rfl) (by kernel_rfl) (by kernel_rfl) (fun _ _ _ h => h) (Or.inl ⟨by rfl, ?yzd21⟩) (by assumption) ?rzd21
    case yzd21 => (intro w hSw; (try dsimp only at hSw); go_simp; (try with_reducible rfl))
    (try simp only [Act.put, List.setIfInBounds_toArray, List.set_cons_zero, List.set_cons_succ])
    refine wpAnyH_take (i := 35) (oi := { dst := some 110, op := Go.Op.unOp Go.UnOp.not 4 (Go.Operand.tmp 109), type := 4, pos := "more.go:64", after := #[{ on := 34, ground := Go.Ground.data }, { on := 33, ground := Go.Ground.guard }], guard := some (33, false) }) (v := ?vzd22) rfl (by kernel_rfl) (by kernel_rfl) (by kernel_rfl) (fun _ _ _ h => h) (Or.inl ⟨by rfl, ?yzd22⟩) (by assumption) ?rzd22
    case yzd22 => (intro w hSw; (try dsimp only at hSw); go_simp; (try with_reducible rfl))
    (try simp only [Act.put, List.setIfInBounds_toArray, List.set_cons_zero, List.set_cons_succ])
    refine wpAnyH_take (i := 36) (oi := { dst := some 111, op := Go.Op.move (Go.Operand.tmp 110), type := 4, pos := "more.go:64", after := #[{ on := 35, ground := Go.Ground.data }, { on := 33, ground := Go.Ground.chain }, { on := 33, ground := Go.Ground.guard }], guard := some (33, false) }) (v := ?vzd23) rfl (by kernel_rfl) (by kernel_rfl) (by kernel_rfl) (fun _ _ _ h => h) (Or.inl ⟨by rfl, ?yzd23⟩) (by assumption) ?rzd23
    case yzd23 => (intro w hSw; (try dsimp only at hSw); go_simp; (try with_reducible rfl))
    (try simp only [Act.put, List.setIfInBounds_toArray, List.set_cons_zero, List.set_cons_succ])
    refine wpAnyH_take (i := 37) (oi := { dst := some 112, op := Go.Op.fieldAddr 28 (Go.Operand.tmp 14) 6, type := 0, pos := "more.go:64", after := #[{ on := 36, ground := Go.Ground.guard }], guard := some (36, true) }) (v := ?vzd24) rfl (by kernel_rfl) (by kernel_rfl) (by kernel_rfl) (fun _ _ _ h => h) (Or.inl ⟨by rfl, ?yzd24⟩) (by assumption) ?rzd24
    case yzd24 => (intro w hSw; (try dsimp only at hSw); go_simp; (try with_reducible rfl))
    (try simp only [Act.put, List.setIfInBounds_toArray, List.set_cons_zero, List.set_cons_succ])
    refine wpAnyH_take (i := 38) (oi := { dst := some 113, op := Go.Op.load 3 (Go.Operand.tmp 112), type := 3, pos := "more.go:64", after := #[{ on := 37, ground := Go.Ground.data }, { on := 36, ground := Go.Ground.guard }], guard := some (36, true) }) (v := ?vzd25) rfl (by kernel_rfl) (by kernel_rfl) (by kernel_rfl) (fun _ _ _ h => h) (Or.inl ⟨by rfl, ?yzd25⟩) (by assumption) ?rzd25
    case yzd25 => (intro w hSw; (try dsimp only at hSw); go_simp; (try with_reducible rfl))
    (try simp only [Act.put, List.setIfInBounds_toArray, List.set_cons_zero, List.set_cons_succ])
    refine wpAnyH_take (i := 39) (oi := { dst := some 114, op := Go.Op.binOp Go.BinOp.eql 3 (Go.Operand.tmp 113) (Go.Operand.const (Go.Value.int Go.IntKind.i64 4)) 3, type := 4, pos := "more.go:64", after := #[{ on := 38, ground := Go.Ground.data }, { on := 36, ground := Go.Ground.guard }], guard := some (36, true) }) (v := ?vzd26) rfl (by kernel_rfl) (by kernel_rfl) (by kernel_rfl) (fun _ _ _ h => h) (Or.inl ⟨by rfl, ?yzd26⟩) (by assumption) ?rzd26
    case yzd26 => (intro w hSw; (try dsimp only at hSw); go_simp; (try with_reducible rfl))
    (try simp only [Act.put, List.setIfInBounds_toArray, List.set_cons_zero, List.set_cons_succ])
    refine wpAnyH_take (i := 40) (oi := { dst := some 115, op := Go.Op.pick (Go.Operand.tmp 111) (Go.Operand.tmp 114) (Go.Operand.const (Go.Value.bool false)), type := 4, pos := "more.go:64", after := #[{ on := 36, ground := Go.Ground.data }, { on := 39, ground := Go.Ground.data }, { on := 33, ground := Go.Ground.guard }], guard := some (33, false) }) (v := ?vzd27) rfl (by kernel_rfl) (by kernel_rfl) (by kernel_rfl) (fun _ _ _ h => h) (Or.inl ⟨by rfl, ?yzd27⟩) (by assumption) ?rzd27
    case yzd27 => (intro w hSw; (try dsimp only at hSw); go_simp; (try with_reducible rfl))
    (try simp only [Act.put, List.setIfInBounds_toArray, List.set_cons_zero, List.set_cons_succ])
    refine wpAnyH_take (i := 41) (oi := { dst := some 116, op := Go.Op.move (Go.Operand.tmp 115), type := 4, pos := "more.go:64", after := #[{ on := 40, ground := Go.Ground.data }, { on := 36, ground := Go.Ground.chain }, { on := 33, ground := Go.Ground.guard }], guard := some (33, false) }) (v := ?vzd28) rfl (by kernel_rfl) (by kernel_rfl) (by kernel_rfl) (fun _ _ _ h => h) (Or.inl ⟨by rfl, ?yzd28⟩) (by assumption) ?rzd28
    case yzd28 => (intro w hSw; (try dsimp only at hSw); go_simp; (try with_reducible rfl))
    (try simp only [Act.put, List.setIfInBounds_toArray, List.set_cons_zero, List.set_cons_succ])
    refine wpAnyH_take (i := 42) (oi := { dst := some 117, op := Go.Op.load 28 (Go.Operand.tmp 17), type := 28, pos := "more.go:64", after := #[{ on := 41, ground := Go.Ground.guard }], guard := some (41, true) }) (v := ?vzd29) rfl (by kernel_rfl) (by kernel_rfl) (by kernel_rfl) (fun _ _ _ h => h) (Or.inl ⟨by rfl, ?yzd29⟩) (by assumption) ?rzd29
    case yzd29 => (intro w hSw; (try dsimp only at hSw); go_simp; (try with_reducible rfl))
    (try simp only [Act.put, List.setIfInBounds_toArray, List.set_cons_zero, List.set_cons_succ])
    refine wpAnyH_take (i := 43) (oi := { dst := some 118, op := Go.Op.load 28 (Go.Operand.tmp 14), type := 28, pos := "more.go:64", after := #[{ on := 41, ground := Go.Ground.guard }], guard := some (41, true) }) (v := ?vzd30) rfl (by kernel_rfl) (by kernel_rfl) (by kernel_rfl) (fun _ _ _ h => h) (Or.inl ⟨by rfl, ?yzd30⟩) (by assumption) ?rzd30
    case yzd30 => (intro w hSw; (try dsimp only at hSw); go_simp; (try with_reducible rfl))
    (try simp only [Act.put, List.setIfInBounds_toArray, List.set_cons_zero, List.set_cons_succ])
    refine wpAnyH_take (i := 44) (oi := { dst := some 119, op := Go.Op.binOp Go.BinOp.eql 28 (Go.Operand.tmp 117) (Go.Operand.tmp 118) 28, type := 4, pos := "more.go:64", after := #[{ on := 42, ground := Go.Ground.data }, { on := 43, ground := Go.Ground.data }, { on := 41, ground := Go.Ground.guard }], guard := some (41, true) }) (v := ?vzd31) rfl (by kernel_rfl) (by kernel_rfl) (by kernel_rfl) (fun _ _ _ h => h) (Or.inl ⟨by rfl, ?yzd31⟩) (by assumption) ?rzd31
    case yzd31 => (intro w hSw; (try dsimp only at hSw); go_simp; (try with_reducible rfl))
    (try simp only [Act.put, List.setIfInBounds_toArray, List.set_cons_zero, List.set_cons_succ])
    refine wpAnyH_take (i := 45) (oi := { dst := some 120, op := Go.Op.pick (Go.Operand.tmp 116) (Go.Operand.tmp 119) (Go.Operand.const (Go.Value.bool false)), type := 4, pos := "more.go:64", after := #[{ on := 41, ground := Go.Ground.data }, { on := 44, ground := Go.Ground.data }, { on := 33, ground := Go.Ground.guard }], guard := some (33, false) }) (v := ?vzd32) rfl (by kernel_rfl) (by kernel_rfl) (by kernel_rfl) (fun _ _ _ h => h) (Or.inl ⟨by rfl, ?yzd32⟩) (by assumption) ?rzd32
    case yzd32 => (intro w hSw; (try dsimp only at hSw); go_simp; (try with_reducible rfl))
    (try simp only [Act.put, List.setIfInBounds_toArray, List.set_cons_zero, List.set_cons_succ])
    refine wpAnyH_take (i := 46) (oi := { dst := some 121, op := Go.Op.pick (Go.Operand.tmp 108) (Go.Operand.const (Go.Value.bool true)) (Go.Operand.tmp 120), type := 4, pos := "more.go:64", after := #[{ on := 33, ground := Go.Ground.data }, { on := 45, ground := Go.Ground.data }, { on := 13, ground := Go.Ground.guard }], guard := some (13, true) }) (v := ?vzd33) rfl (by kernel_rfl) (by kernel_rfl) (by kernel_rfl) (fun _ _ _ h => h) (Or.inl ⟨by rfl, ?yzd33⟩) (by assumption) ?rzd33
    case yzd33 => (intro w hSw; (try dsimp only at hSw); go_simp; (try with_reducible rfl))
    (try simp only [Act.put, List.setIfInBounds_toArray, List.set_cons_zero, List.set_cons_succ])
    refine wpAnyH_take (i := 47) (oi := { dst := some 122, op := Go.Op.pick (Go.Operand.tmp 88) (Go.Operand.tmp 121) (Go.Operand.const (Go.Value.bool false)), type := 4, pos := "more.go:64", after := #[{ on := 13, ground := Go.Ground.data }, { on := 46, ground := Go.Ground.data }], guard := none }) (v := ?vzd34) rfl (by kernel_rfl) (by kernel_rfl) (by kernel_rfl) (fun _ _ _ h => h) (Or.inl ⟨by rfl, ?yzd34⟩) (by assumption) ?rzd34
    case yzd34 => (intro w hSw; (try dsimp only at hSw); go_simp; (try with_reducible rfl))
    (try simp only [Act.put, List.setIfInBounds_toArray, List.set_cons_zero, List.set_cons_succ])
    refine wpAnyH_take (i := 48) (oi := { dst := some 8, op := Go.Op.assign (Go.Operand.tmp 122), type := 4, pos := "more.go:64", after := #[{ on := 47, ground := Go.Ground.data }, { on := 41, ground := Go.Ground.chain }, { on := 0, ground := Go.Ground.phase }, { on := 1, ground := Go.Ground.phase }, { on := 2, ground := Go.Ground.phase }, { on := 3, ground := Go.Ground.phase }, { on := 4, ground := Go.Ground.phase }, { on := 5, ground := Go.Ground.phase }, { on := 6, ground := Go.Ground.phase }, { on := 7, ground := Go.Ground.phase }, { on := 8, ground := Go.Ground.phase }, { on := 9, ground := Go.Ground.phase }, { on := 10, ground := Go.Ground.phase }, { on := 11, ground := Go.Ground.phase }, { on := 12, ground := Go.Ground.phase }, { on := 13, ground := Go.Ground.phase }, { on := 14, ground := Go.Ground.phase }, { on := 15, ground := Go.Ground.phase }, { on := 16, ground := Go.Ground.phase }, { on := 17, ground := Go.Ground.phase }, { on := 18, ground := Go.Ground.phase }, { on := 19, ground := Go.Ground.phase }, { on := 20, ground := Go.Ground.phase }, { on := 21, ground := Go.Ground.phase }, { on := 22, ground := Go.Ground.phase }, { on := 23, ground := Go.Ground.phase }, { on := 24, ground := Go.Ground.phase }, { on := 25, ground := Go.Ground.phase }, { on := 26, ground := Go.Ground.phase }, { on := 27, ground := Go.Ground.phase }, { on := 28, ground := Go.Ground.phase }, { on := 29, ground := Go.Ground.phase }, { on := 30, ground := Go.Ground.phase }, { on := 31, ground := Go.Ground.phase }, { on := 32, ground := Go.Ground.phase }, { on := 33, ground := Go.Ground.phase }, { on := 34, ground := Go.Ground.phase }, { on := 35, ground := Go.Ground.phase }, { on := 36, ground := Go.Ground.phase }, { on := 37, ground := Go.Ground.phase }, { on := 38, ground := Go.Ground.phase }, { on := 39, ground := Go.Ground.phase }, { on := 40, ground := Go.Ground.phase }, { on := 41, ground := Go.Ground.phase }, { on := 42, ground := Go.Ground.phase }, { on := 43, ground := Go.Ground.phase }, { on := 44, ground := Go.Ground.phase }, { on := 45, ground := Go.Ground.phase }, { on := 46, ground := Go.Ground.phase }, { on := 47, ground := Go.Ground.phase }], guard := none }) (v := ?vzd35) rfl (by kernel_rfl) (by kernel_rfl) (by kernel_rfl) (fun _ _ _ h => h) (Or.inl ⟨by rfl, ?yzd35⟩) (by assumption) ?rzd35
    case yzd35 => (intro w hSw; (try dsimp only at hSw); go_simp; (try with_reducible rfl))
    (try simp only [Act.put, List.setIfInBounds_toArray, List.set_cons_zero, List.set_cons_succ])
    refine wpAnyH_done (by kernel_rfl) ?_ _
    go_wp2
    go_ret
    exact ⟨rfl, Z.out.trans (ZC.out.mono Z.out.size)⟩
theorem again_walk (W D J S : Int) (A : Option Addr) (n c : Nat) (m : List Int) (f : Fr) (e : Int) (w : World) (hm : Rd w A m) (hn : m.length = n) (hf : UF f) (hu : U e) : Tells 8 #[cf W D J S, .slice A n c, fv f, .int .u64 e] w (.bool true) := by
  by_cases hs : n ≤ 500
  · by_cases hp : f.pc = 2
    · cases hg : goes W D J S m f 5 5
      · exact again_no W D J S A n c m f e w hn hs hp hg
      · by_cases hne : e = f.y
        · subst hne
          exact again_same W D J S A n c m f w hn hs hp hg
        · by_cases hq : e / 65536 = f.x / 65536
          · exact again_yes W D J S A n c m f e w hm hn hs hf hu hp hg hne hq
          · exact again_not W D J S A n c m f e w hm hn hs hf hu hp hg hne hq
    · exact again_pc W D J S A n c f e w hs hp
  · exact again_big W D J S A n c f e w (by omega)
end Go.Proofs.Ytpnmgpmmaiinmaa
