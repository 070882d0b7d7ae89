/- Contracts of the exchange and of the wake. -/
import Derived.Test.YtgemaeibmgkneaaNtB
import Derived.Deep.CutRange
import Derived.Deep.DeepCutAuto
namespace Go.Proofs.Ytgemaeibmgkneaa
open Go.RowKit Go.Deep
set_option maxRecDepth 100000 in
/-- A mask without its lowest bit. -/
theorem nat_and_down (n k : Nat) (h : n / 2 ^ k % 2 = 1) (h0 : n % 2 ^ k = 0) : n &&& (n - 1) = n - 2 ^ k := by
  have hp : 0 < 2 ^ k := Nat.two_pow_pos k
  have e1 : n = 2 ^ (k + 1) * (n / 2 ^ (k + 1)) + 2 ^ k := by
    have h1 := Nat.div_add_mod n (2 ^ (k + 1))
    rw [Nat.mod_pow_succ, h, h0, Nat.mul_one, Nat.zero_add] at h1
    exact h1.symm
  generalize n / 2 ^ (k + 1) = q at e1
  have hs : 2 ^ (k + 1) = 2 ^ k + 2 ^ k := by rw [Nat.pow_succ]; omega
  have lt1 : 2 ^ k < 2 ^ (k + 1) := by omega
  have lt2 : 2 ^ k - 1 < 2 ^ (k + 1) := by omega
  have e2 : n - 1 = 2 ^ (k + 1) * q + (2 ^ k - 1) := by omega
  have e3 : n - 2 ^ k = 2 ^ (k + 1) * q + 0 := by omega
  rw [e2, e3, e1]
  apply Nat.eq_of_testBit_eq
  intro i
  rw [Nat.testBit_and, Nat.testBit_two_pow_mul_add _ lt1, Nat.testBit_two_pow_mul_add _ lt2, Nat.testBit_two_pow_mul_add _ (Nat.two_pow_pos _)]
  split
  · rw [Nat.testBit_two_pow, Nat.testBit_two_pow_sub_one]
    by_cases c : k = i
    · subst c; simp
    · simp [c]
  · simp
set_option maxRecDepth 100000 in
theorem and_down (y M R : Int) (h : y % 65536 = M) (hr : rs y = R) : bits .and .u64 M (IntKind.u64.wrap (M - 1)) = R := by
  have hm : 0 ≤ M ∧ M < 65536 := by omega
  rw [← hr]
  unfold rs
  rw [h]
  rcases lw_cases y with ⟨e, h0⟩ | ⟨k, hk, e, hb, h0⟩
  · rw [e, if_neg (by omega)]
    obtain rfl : M = 0 := by omega
    decide
  · rw [e, if_pos (by omega), Int.toNat_natCast]
    rw [← bit_mask y k hk, h] at hb
    have hm0 : M % 2 ^ k = 0 := by
      clear e
      rw [← h]
      rcases pow_cases hk with rfl | rfl | rfl | rfl | rfl | rfl | rfl | rfl | rfl | rfl | rfl | rfl | rfl | rfl | rfl | rfl <;> simp at h0 ⊢ <;> omega
    obtain ⟨n, rfl⟩ := Int.eq_ofNat_of_zero_le hm.1
    have hb' : n / 2 ^ k % 2 = 1 := by exact_mod_cast hb
    have h0' : n % 2 ^ k = 0 := by exact_mod_cast hm0
    have h1 := (nat_less_or n k hb').1
    have hp : 0 < 2 ^ k := Nat.two_pow_pos k
    have c : IntKind.u64.wrap ((n : Int) - 1) = ((n - 1 : Nat) : Int) := by rw [IntKind.wrap_u64]; omega
    rw [c, show ((n : Int) - 2 ^ k) = ((n - 2 ^ k : Nat) : Int) by rw [Int.natCast_sub h1]; simp, ← nat_and_down n k hb' h0', u64_and _ _ (by omega) (by omega) (by omega) (by omega), Int.toNat_natCast, Int.toNat_natCast]
set_option maxHeartbeats 4000000 in
set_option maxRecDepth 100000 in
theorem exchange_6 (lo g : Nat) (f : Fr) (W D J S : Int) (X Y : Int) (T : List Int) (b z : Bool) (F : Fr) (A : Option Addr) (c : Nat) (l : List Int) (w : World) (hB : Bo w g W D J S (.slice A l.length c) f) (hA : Rx lo g w A l) (hlo : lo ≤ w.heap.size) (ho : f.op = 6) (hx : U f.x) (hX : nxN 6 f.x = X) (hY : whN 6 f.x = Y) (hb : isAt l 2 f.x = b) (hT : (if isAt l 2 f.x = true then put l 2 X else l) = T) (hz : (f.x % 65536 == 0) = z) (hF : F = if b then (if z then ed f 3 0 else { f with pc := 2, y := Y }) else { f with pc := 0 }) (hs : l.length ≤ 500) :
    Calls Try.prog 53 #[.pointer (some ⟨g, 0, none⟩)] w (Lo lo w g F W D J S T) := by
  have HB := Lib.hid hB
  have HA := Lib.hid hA
  have HS := Lib.hid hs
  clear hB hA hs
  obtain ⟨o, p, q, v, x, y, s⟩ := f
  simp only at ho hx hX hY hb hT hz
  subst ho
  have HTL := Lib.hid (show T.length = l.length by rw [← hT]; split <;> simp [len_put])
  have HT := Lib.hid hT
  have HIB := Lib.hid hb
  have HF := Lib.hid hF
  have HX := Lib.hid hx
  have HX2 := Lib.hid hX
  have HY := Lib.hid hY
  have HZ := Lib.hid hz
  have HLW := Lib.hid hlo
  clear hb hT hF hx hX hY hz hlo
  have e := HB.out
  obtain ⟨a0, a1, a2, a3, a4, a5, a6, a7, a8, a9, a10, a11⟩ := e.cells
  have fz := e.free
  have hg := e.lt
  have HK0 := Lib.hid (show ∀ x', Below w.heap.size w x' → (fun w' => w'.cell? ⟨g, 5, none⟩ = some (.int .i64 6) ∧ w'.cell? ⟨g, 9, none⟩ = some (.int .u64 x) ∧ Below w.heap.size w w') x' from fun x' hx => ⟨(e.after hx).cells.2.2.2.2.2.1, (e.after hx).cells.2.2.2.2.2.2.2.2.2.1, hx⟩)
  have hHeld0 := HK0.out _ (Below.refl _ _)
  clear e
  have ZC := Lib.hid (Below.refl w.heap.size w).drew
  go_enter Try.func53, Try.ntmps53
  go_upto_region 0 with fail
  refine wp_region_held_drew (S := fun w' => w'.cell? ⟨g, 5, none⟩ = some (.int .i64 6) ∧ w'.cell? ⟨g, 9, none⟩ = some (.int .u64 x) ∧ Below w.heap.size w w') (by kernel_rfl) (hd_drew HK0.out (fun _ h => h.2.2) hHeld0) (fun hHeld => ?_)
  refine wpAnyH_take (i := 0) (oi := { dst := some 6, op := Go.Op.move (Go.Operand.tmp 0), type := 92, pos := "note.go:113", after := #[], guard := none }) (v := ?vrt61) rfl (by kernel_rfl) (by kernel_rfl) (by kernel_rfl) (fun _ _ _ h => h) (Or.inl ⟨by rfl, ?yrt61⟩) (by assumption) ?rrt61
  case yrt61 => (intro w hSw; (try dsimp only at hSw); go_simp; (try with_reducible rfl))
  (try simp only [Act.put, List.setIfInBounds_toArray, List.set_cons_zero, List.set_cons_succ])
  refine wpAnyH_take (i := 1) (oi := { dst := some 7, op := Go.Op.nilCheck (Go.Operand.tmp 6), type := 0, pos := "note.go:113", after := #[{ on := 0, ground := Go.Ground.data }], guard := none }) (v := ?vrt62) rfl (by kernel_rfl) (by kernel_rfl) (by kernel_rfl) (fun _ _ _ h => h) (Or.inl ⟨by rfl, ?yrt62⟩) (by assumption) ?rrt62
  case yrt62 => (intro w hSw; (try dsimp only at hSw); go_simp; (try with_reducible rfl))
  (try simp only [Act.put, List.setIfInBounds_toArray, List.set_cons_zero, List.set_cons_succ])
  refine wpAnyH_take (i := 2) (oi := { dst := some 8, op := Go.Op.fieldAddr 66 (Go.Operand.tmp 7) 2, type := 0, pos := "note.go:113", after := #[{ on := 1, ground := Go.Ground.data }], guard := none }) (v := ?vrt63) rfl (by kernel_rfl) (by kernel_rfl) (by kernel_rfl) (fun _ _ _ h => h) (Or.inl ⟨by rfl, ?yrt63⟩) (by assumption) ?rrt63
  case yrt63 => (intro w hSw; (try dsimp only at hSw); go_simp; (try with_reducible rfl))
  (try simp only [Act.put, List.setIfInBounds_toArray, List.set_cons_zero, List.set_cons_succ])
  refine wpAnyH_take (i := 3) (oi := { dst := some 9, op := Go.Op.fieldAddr 34 (Go.Operand.tmp 8) 4, type := 0, pos := "note.go:113", after := #[{ on := 2, ground := Go.Ground.data }], guard := none }) (v := ?vrt64) rfl (by kernel_rfl) (by kernel_rfl) (by kernel_rfl) (fun _ _ _ h => h) (Or.inl ⟨by rfl, ?yrt64⟩) (by assumption) ?rrt64
  case yrt64 => (intro w hSw; (try dsimp only at hSw); go_simp; (try with_reducible rfl))
  (try simp only [Act.put, List.setIfInBounds_toArray, List.set_cons_zero, List.set_cons_succ])
  refine wpAnyH_take (i := 4) (oi := { dst := some 10, op := Go.Op.load 32 (Go.Operand.tmp 9), type := 32, pos := "note.go:113", after := #[{ on := 3, ground := Go.Ground.data }], guard := none }) (v := ?vrt65) rfl (by kernel_rfl) (by kernel_rfl) (by kernel_rfl) (fun _ _ _ h => h) (Or.inl ⟨by rfl, ?yrt65⟩) (by assumption) ?rrt65
  case yrt65 => (intro w hSw; (try dsimp only at hSw); go_simp; (try with_reducible rfl))
  (try simp only [Act.put, List.setIfInBounds_toArray, List.set_cons_zero, List.set_cons_succ])
  refine wpAnyH_take (i := 6) (oi := { dst := some 12, op := Go.Op.move (Go.Operand.tmp 0), type := 92, pos := "note.go:113", after := #[], guard := none }) (v := ?vrt66) rfl (by kernel_rfl) (by kernel_rfl) (by kernel_rfl) (fun _ _ _ h => h) (Or.inl ⟨by rfl, ?yrt66⟩) (by assumption) ?rrt66
  case yrt66 => (intro w hSw; (try dsimp only at hSw); go_simp; (try with_reducible rfl))
  (try simp only [Act.put, List.setIfInBounds_toArray, List.set_cons_zero, List.set_cons_succ])
  refine wpAnyH_take (i := 7) (oi := { dst := some 13, op := Go.Op.nilCheck (Go.Operand.tmp 12), type := 0, pos := "note.go:113", after := #[{ on := 6, ground := Go.Ground.data }], guard := none }) (v := ?vrt67) rfl (by kernel_rfl) (by kernel_rfl) (by kernel_rfl) (fun _ _ _ h => h) (Or.inl ⟨by rfl, ?yrt67⟩) (by assumption) ?rrt67
  case yrt67 => (intro w hSw; (try dsimp only at hSw); go_simp; (try with_reducible rfl))
  (try simp only [Act.put, List.setIfInBounds_toArray, List.set_cons_zero, List.set_cons_succ])
  refine wpAnyH_take (i := 8) (oi := { dst := some 14, op := Go.Op.fieldAddr 66 (Go.Operand.tmp 13) 2, type := 0, pos := "note.go:113", after := #[{ on := 7, ground := Go.Ground.data }], guard := none }) (v := ?vrt68) rfl (by kernel_rfl) (by kernel_rfl) (by kernel_rfl) (fun _ _ _ h => h) (Or.inl ⟨by rfl, ?yrt68⟩) (by assumption) ?rrt68
  case yrt68 => (intro w hSw; (try dsimp only at hSw); go_simp; (try with_reducible rfl))
  (try simp only [Act.put, List.setIfInBounds_toArray, List.set_cons_zero, List.set_cons_succ])
  refine wpAnyH_take (i := 9) (oi := { dst := some 15, op := Go.Op.fieldAddr 34 (Go.Operand.tmp 14) 0, type := 0, pos := "note.go:113", after := #[{ on := 8, ground := Go.Ground.data }], guard := none }) (v := ?vrt69) rfl (by kernel_rfl) (by kernel_rfl) (by kernel_rfl) (fun _ _ _ h => h) (Or.inl ⟨by rfl, ?yrt69⟩) (by assumption) ?rrt69
  case yrt69 => (intro w hSw; (try dsimp only at hSw); go_simp; (try with_reducible rfl))
  (try simp only [Act.put, List.setIfInBounds_toArray, List.set_cons_zero, List.set_cons_succ])
  refine wpAnyH_take (i := 10) (oi := { dst := some 16, op := Go.Op.load 3 (Go.Operand.tmp 15), type := 3, pos := "note.go:113", after := #[{ on := 9, ground := Go.Ground.data }], guard := none }) (v := ?vrt610) rfl (by kernel_rfl) (by kernel_rfl) (by kernel_rfl) (fun _ _ _ h => h) (Or.inl ⟨by rfl, ?yrt610⟩) (by assumption) ?rrt610
  case yrt610 => (intro w hSw; (try dsimp only at hSw); go_simp; (try with_reducible rfl))
  (try simp only [Act.put, List.setIfInBounds_toArray, List.set_cons_zero, List.set_cons_succ])
  refine wpAnyH_ready (rs := [5]) (by kernel_rfl) (by simp) ?_
  refine (AllReadyH.cons (o := { dst := some 11, op := Go.Op.call { callee := Go.Callee.value (Go.Operand.func 50), args := #[], argTypes := #[] }, type := 89, pos := "note.go:113", after := #[], guard := none }) rfl (fun K hK => ?_) AllReadyH.nil)
  go_simp
  refine (nturns_any _).mono ?_
  rintro e w1 ⟨bm, rfl, hmp, hb⟩
  go_wp2_with fail
  replace ZC := Lib.hid (keep_call (w2 := w) hb ZC.out)
  have hlk := run_look hmp (k := 6) rfl false
  clear hb
  refine hK.out _ _ (HK0.out _ ZC.out) (fun hHeld2 => ?_)
  clear hK K hHeld
  have hHeld := hHeld2
  clear hHeld2
  (try simp only [Act.put, List.setIfInBounds_toArray, List.set_cons_zero, List.set_cons_succ])
  refine wpAnyH_ready (rs := [11]) (by kernel_rfl) (by simp) ?_
  refine (AllReadyH.cons (o := { dst := some 17, op := Go.Op.lookup 89 (Go.Operand.tmp 11) (Go.Operand.tmp 16) false, type := 87, pos := "note.go:113", after := #[{ on := 5, ground := Go.Ground.data }, { on := 10, ground := Go.Ground.data }], guard := none }) rfl (fun K hK => ?_) AllReadyH.nil)
  simp only [Bool.false_eq_true, if_false] at hlk
  go_simp
  refine hK.out _ _ (hHeld) (fun hHeld2 => ?_)
  clear hK K hHeld
  have hHeld := hHeld2
  clear hHeld2
  (try simp only [Act.put, List.setIfInBounds_toArray, List.set_cons_zero, List.set_cons_succ])
  refine wpAnyH_ready (rs := [12]) (by kernel_rfl) (by simp) ?_
  refine (AllReadyH.cons (o := { dst := some 18, op := Go.Op.buildSlice 108 1 #[(0, Go.Operand.tmp 17)], type := 108, pos := "note.go:113", after := #[{ on := 11, ground := Go.Ground.data }], guard := none }) rfl (fun K hK => ?_) AllReadyH.nil)
  go_simp
  replace ZC := Lib.hid (ZC.out.alloc ZC.out.size (.cells #[.func (.func 65) #[] #[]] 87))
  have HCB := Lib.hid (Boxed.new w1 87 (.func (.func 65) #[] #[])).cell
  have HCL := Lib.hid (show w1.heap.size < (w1.alloc (.cells #[.func (.func 65) #[] #[]] 87)).heap.size by simp)
  refine hK.out _ _ (HK0.out _ ZC.out) (fun hHeld2 => ?_)
  clear hK K hHeld
  have hHeld := hHeld2
  clear hHeld2
  (try simp only [Act.put, List.setIfInBounds_toArray, List.set_cons_zero, List.set_cons_succ])
  refine wpAnyH_ready (rs := [13]) (by kernel_rfl) (by simp) ?_
  refine (AllReadyH.cons (o := { dst := some 19, op := Go.Op.call { callee := Go.Callee.value (Go.Operand.func 67), args := #[Go.Operand.tmp 10, Go.Operand.tmp 18], argTypes := #[32, 108] }, type := 96, pos := "note.go:113", after := #[{ on := 4, ground := Go.Ground.data }, { on := 12, ground := Go.Ground.data }, { on := 5, ground := Go.Ground.chain }], guard := none }) rfl (fun K hK => ?_) AllReadyH.nil)
  go_simp
  refine (Tells.of (turned_6 x _ _ _ HX.out HCB.out HCL.out) (v' := .tuple #[.int .u64 X, .int .u64 Y]) (by rw [HX2.out, HY.out])).mono ?_
  rintro e w3 ⟨rfl, hb⟩
  go_wp2_with fail
  replace ZC := Lib.hid (keep_call (w2 := w) hb ZC.out)
  clear hb
  refine hK.out _ _ (HK0.out _ ZC.out) (fun hHeld2 => ?_)
  clear hK K hHeld
  have hHeld := hHeld2
  clear hHeld2
  (try simp only [Act.put, List.setIfInBounds_toArray, List.set_cons_zero, List.set_cons_succ])
  refine wpAnyH_take (i := 14) (oi := { dst := some 5, op := Go.Op.move (Go.Operand.tmp 19), type := 96, pos := "note.go:113", after := #[{ on := 13, ground := Go.Ground.data }], guard := none }) (v := ?vrt611) rfl (by kernel_rfl) (by kernel_rfl) (by kernel_rfl) (fun _ _ _ h => h) (Or.inl ⟨by rfl, ?yrt611⟩) (by assumption) ?rrt611
  case yrt611 => (intro w hSw; (try dsimp only at hSw); go_simp; (try with_reducible rfl))
  (try simp only [Act.put, List.setIfInBounds_toArray, List.set_cons_zero, List.set_cons_succ])
  refine wpAnyH_take (i := 15) (oi := { dst := some 20, op := Go.Op.extract (Go.Operand.tmp 5) 0, type := 32, pos := "note.go:113", after := #[{ on := 14, ground := Go.Ground.data }], guard := none }) (v := ?vrt612) rfl (by kernel_rfl) (by kernel_rfl) (by kernel_rfl) (fun _ _ _ h => h) (Or.inl ⟨by rfl, ?yrt612⟩) (by assumption) ?rrt612
  case yrt612 => (intro w hSw; (try dsimp only at hSw); go_simp; (try with_reducible rfl))
  (try simp only [Act.put, List.setIfInBounds_toArray, List.set_cons_zero, List.set_cons_succ])
  refine wpAnyH_take (i := 16) (oi := { dst := some 21, op := Go.Op.extract (Go.Operand.tmp 5) 1, type := 32, pos := "note.go:113", after := #[{ on := 14, ground := Go.Ground.data }, { on := 17, ground := Go.Ground.gcOnly Go.Departure.lateStores }], guard := none }) (v := ?vrt613) rfl (by kernel_rfl) (by kernel_rfl) (by kernel_rfl) (fun _ _ _ h => h) (Or.inl ⟨by rfl, ?yrt613⟩) (by assumption) ?rrt613
  case yrt613 => (intro w hSw; (try dsimp only at hSw); go_simp; (try with_reducible rfl))
  (try simp only [Act.put, List.setIfInBounds_toArray, List.set_cons_zero, List.set_cons_succ])
  refine wpAnyH_take (i := 17) (oi := { dst := some 2, op := Go.Op.assign (Go.Operand.tmp 20), type := 32, pos := "note.go:113", after := #[{ on := 15, ground := Go.Ground.data }, { on := 13, ground := Go.Ground.chain }, { on := 0, ground := Go.Ground.phase }, { on := 1, ground := Go.Ground.phase }, { on := 2, ground := Go.Ground.phase }, { on := 3, ground := Go.Ground.phase }, { on := 4, ground := Go.Ground.phase }, { on := 5, ground := Go.Ground.phase }, { on := 6, ground := Go.Ground.phase }, { on := 7, ground := Go.Ground.phase }, { on := 8, ground := Go.Ground.phase }, { on := 9, ground := Go.Ground.phase }, { on := 10, ground := Go.Ground.phase }, { on := 11, ground := Go.Ground.phase }, { on := 12, ground := Go.Ground.phase }, { on := 13, ground := Go.Ground.phase }, { on := 14, ground := Go.Ground.phase }, { on := 15, ground := Go.Ground.phase }, { on := 16, ground := Go.Ground.textOnly Go.Departure.lateStores }], guard := none }) (v := ?vrt614) rfl (by kernel_rfl) (by kernel_rfl) (by kernel_rfl) (fun _ _ _ h => h) (Or.inl ⟨by rfl, ?yrt614⟩) (by assumption) ?rrt614
  case yrt614 => (intro w hSw; (try dsimp only at hSw); go_simp; (try with_reducible rfl))
  (try simp only [Act.put, List.setIfInBounds_toArray, List.set_cons_zero, List.set_cons_succ])
  refine wpAnyH_take (i := 18) (oi := { dst := some 3, op := Go.Op.assign (Go.Operand.tmp 21), type := 32, pos := "note.go:113", after := #[{ on := 16, ground := Go.Ground.data }, { on := 17, ground := Go.Ground.chain }, { on := 0, ground := Go.Ground.phase }, { on := 1, ground := Go.Ground.phase }, { on := 2, ground := Go.Ground.phase }, { on := 3, ground := Go.Ground.phase }, { on := 4, ground := Go.Ground.phase }, { on := 5, ground := Go.Ground.phase }, { on := 6, ground := Go.Ground.phase }, { on := 7, ground := Go.Ground.phase }, { on := 8, ground := Go.Ground.phase }, { on := 9, ground := Go.Ground.phase }, { on := 10, ground := Go.Ground.phase }, { on := 11, ground := Go.Ground.phase }, { on := 12, ground := Go.Ground.phase }, { on := 13, ground := Go.Ground.phase }, { on := 14, ground := Go.Ground.phase }, { on := 15, ground := Go.Ground.phase }, { on := 16, ground := Go.Ground.phase }, { on := 17, ground := Go.Ground.phase }], guard := none }) (v := ?vrt615) rfl (by kernel_rfl) (by kernel_rfl) (by kernel_rfl) (fun _ _ _ h => h) (Or.inl ⟨by rfl, ?yrt615⟩) (by assumption) ?rrt615
  case yrt615 => (intro w hSw; (try dsimp only at hSw); go_simp; (try with_reducible rfl))
  (try simp only [Act.put, List.setIfInBounds_toArray, List.set_cons_zero, List.set_cons_succ])
  refine wpAnyH_done (by kernel_rfl) ?_ _
  clear hHeld0 hHeld HK0 hlk
  have e := HB.out.after ZC.out
  have eA := HA.out.after ZC.out
  have HB3 := Lib.hid e
  have HA3 := Lib.hid eA
  have HZ3 := Lib.hid ZC.out
  have HLO3 := Lib.hid (Nat.le_trans HLW.out ZC.out.size)
  clear a0 a1 a2 a3 a4 a5 a6 a7 a8 a9 a10 a11 fz eA
  obtain ⟨a0, a1, a2, a3, a4, a5, a6, a7, a8, a9, a10, a11⟩ := e.cells
  have fz := e.free
  have hg3 := e.lt
  clear ZC HCB HCL hmp
  go_upto_region 2 with fail
  have HK := Lib.hid (show ∀ x', Kx g 4 w3 x' → (fun w' => w'.cell? ⟨g, 9, none⟩ = some (.int .u64 x) ∧ Kx g 4 w3 w') x' from fun x' hx => ⟨(hx.cells 9 (by decide)).trans a9, hx⟩)
  have hHeld0 := HK.out _ (Kx.refl g 4 w3)
  have ZC := Lib.hid (Below.refl w3.heap.size w3).drew
  clear e
  refine wp_region_held_drew (S := fun w' => w'.cell? ⟨g, 9, none⟩ = some (.int .u64 x) ∧ Kx g 4 w3 w') (by kernel_rfl) (kx_drew HK.out (fun _ h => h.2) hHeld0) (fun hHeld => ?_)
  refine wpAnyH_take (i := 0) (oi := { dst := some 23, op := Go.Op.move (Go.Operand.tmp 0), type := 92, pos := "note.go:115", after := #[], guard := none }) (v := ?vrs61) rfl (by kernel_rfl) (by kernel_rfl) (by kernel_rfl) (fun _ _ _ h => h) (Or.inl ⟨by rfl, ?yrs61⟩) (by assumption) ?rrs61
  case yrs61 => (intro w hSw; (try dsimp only at hSw); go_simp; (try with_reducible rfl))
  (try simp only [Act.put, List.setIfInBounds_toArray, List.set_cons_zero, List.set_cons_succ])
  refine wpAnyH_take (i := 1) (oi := { dst := some 24, op := Go.Op.move (Go.Operand.tmp 0), type := 92, pos := "note.go:115", after := #[], guard := none }) (v := ?vrs62) rfl (by kernel_rfl) (by kernel_rfl) (by kernel_rfl) (fun _ _ _ h => h) (Or.inl ⟨by rfl, ?yrs62⟩) (by assumption) ?rrs62
  case yrs62 => (intro w hSw; (try dsimp only at hSw); go_simp; (try with_reducible rfl))
  (try simp only [Act.put, List.setIfInBounds_toArray, List.set_cons_zero, List.set_cons_succ])
  refine wpAnyH_take (i := 2) (oi := { dst := some 25, op := Go.Op.nilCheck (Go.Operand.tmp 24), type := 0, pos := "note.go:115", after := #[{ on := 1, ground := Go.Ground.data }], guard := none }) (v := ?vrs63) rfl (by kernel_rfl) (by kernel_rfl) (by kernel_rfl) (fun _ _ _ h => h) (Or.inl ⟨by rfl, ?yrs63⟩) (by assumption) ?rrs63
  case yrs63 => (intro w hSw; (try dsimp only at hSw); go_simp; (try with_reducible rfl))
  (try simp only [Act.put, List.setIfInBounds_toArray, List.set_cons_zero, List.set_cons_succ])
  refine wpAnyH_take (i := 3) (oi := { dst := some 26, op := Go.Op.fieldAddr 66 (Go.Operand.tmp 25) 1, type := 0, pos := "note.go:115", after := #[{ on := 2, ground := Go.Ground.data }], guard := none }) (v := ?vrs64) rfl (by kernel_rfl) (by kernel_rfl) (by kernel_rfl) (fun _ _ _ h => h) (Or.inl ⟨by rfl, ?yrs64⟩) (by assumption) ?rrs64
  case yrs64 => (intro w hSw; (try dsimp only at hSw); go_simp; (try with_reducible rfl))
  (try simp only [Act.put, List.setIfInBounds_toArray, List.set_cons_zero, List.set_cons_succ])
  refine wpAnyH_take (i := 5) (oi := { dst := some 28, op := Go.Op.move (Go.Operand.tmp 0), type := 92, pos := "note.go:115", after := #[], guard := none }) (v := ?vrs65) rfl (by kernel_rfl) (by kernel_rfl) (by kernel_rfl) (fun _ _ _ h => h) (Or.inl ⟨by rfl, ?yrs65⟩) (by assumption) ?rrs65
  case yrs65 => (intro w hSw; (try dsimp only at hSw); go_simp; (try with_reducible rfl))
  (try simp only [Act.put, List.setIfInBounds_toArray, List.set_cons_zero, List.set_cons_succ])
  refine wpAnyH_take (i := 6) (oi := { dst := some 29, op := Go.Op.nilCheck (Go.Operand.tmp 28), type := 0, pos := "note.go:115", after := #[{ on := 5, ground := Go.Ground.data }], guard := none }) (v := ?vrs66) rfl (by kernel_rfl) (by kernel_rfl) (by kernel_rfl) (fun _ _ _ h => h) (Or.inl ⟨by rfl, ?yrs66⟩) (by assumption) ?rrs66
  case yrs66 => (intro w hSw; (try dsimp only at hSw); go_simp; (try with_reducible rfl))
  (try simp only [Act.put, List.setIfInBounds_toArray, List.set_cons_zero, List.set_cons_succ])
  refine wpAnyH_take (i := 7) (oi := { dst := some 30, op := Go.Op.fieldAddr 66 (Go.Operand.tmp 29) 2, type := 0, pos := "note.go:115", after := #[{ on := 6, ground := Go.Ground.data }], guard := none }) (v := ?vrs67) rfl (by kernel_rfl) (by kernel_rfl) (by kernel_rfl) (fun _ _ _ h => h) (Or.inl ⟨by rfl, ?yrs67⟩) (by assumption) ?rrs67
  case yrs67 => (intro w hSw; (try dsimp only at hSw); go_simp; (try with_reducible rfl))
  (try simp only [Act.put, List.setIfInBounds_toArray, List.set_cons_zero, List.set_cons_succ])
  refine wpAnyH_take (i := 8) (oi := { dst := some 31, op := Go.Op.fieldAddr 34 (Go.Operand.tmp 30) 4, type := 0, pos := "note.go:115", after := #[{ on := 7, ground := Go.Ground.data }], guard := none }) (v := ?vrs68) rfl (by kernel_rfl) (by kernel_rfl) (by kernel_rfl) (fun _ _ _ h => h) (Or.inl ⟨by rfl, ?yrs68⟩) (by assumption) ?rrs68
  case yrs68 => (intro w hSw; (try dsimp only at hSw); go_simp; (try with_reducible rfl))
  (try simp only [Act.put, List.setIfInBounds_toArray, List.set_cons_zero, List.set_cons_succ])
  refine wpAnyH_take (i := 9) (oi := { dst := some 32, op := Go.Op.load 32 (Go.Operand.tmp 31), type := 32, pos := "note.go:115", after := #[{ on := 8, ground := Go.Ground.data }], guard := none }) (v := ?vrs69) rfl (by kernel_rfl) (by kernel_rfl) (by kernel_rfl) (fun _ _ _ h => h) (Or.inl ⟨by rfl, ?yrs69⟩) (by assumption) ?rrs69
  case yrs69 => (intro w hSw; (try dsimp only at hSw); go_simp; (try with_reducible rfl))
  (try simp only [Act.put, List.setIfInBounds_toArray, List.set_cons_zero, List.set_cons_succ])
  refine wpAnyH_take (i := 10) (oi := { dst := some 33, op := Go.Op.move (Go.Operand.tmp 2), type := 32, pos := "note.go:115", after := #[], guard := none }) (v := ?vrs610) rfl (by kernel_rfl) (by kernel_rfl) (by kernel_rfl) (fun _ _ _ h => h) (Or.inl ⟨by rfl, ?yrs610⟩) (by assumption) ?rrs610
  case yrs610 => (intro w hSw; (try dsimp only at hSw); go_simp; (try with_reducible rfl))
  (try simp only [Act.put, List.setIfInBounds_toArray, List.set_cons_zero, List.set_cons_succ])
  refine wpAnyH_ready (rs := [4]) (by kernel_rfl) (by simp) ?_
  refine (AllReadyH.cons (o := { dst := some 27, op := Go.Op.load 27 (Go.Operand.tmp 26), type := 27, pos := "note.go:115", after := #[{ on := 3, ground := Go.Ground.data }], guard := none }) rfl (fun K hK => ?_) AllReadyH.nil)
  go_simp
  refine hK.out _ _ (hHeld) (fun hHeld2 => ?_)
  clear hK K hHeld
  have hHeld := hHeld2
  clear hHeld2
  (try simp only [Act.put, List.setIfInBounds_toArray, List.set_cons_zero, List.set_cons_succ])
  refine wpAnyH_ready (rs := [11]) (by kernel_rfl) (by simp) ?_
  refine (AllReadyH.cons (o := { dst := some 34, op := Go.Op.call { callee := Go.Callee.value (Go.Operand.func 68), args := #[Go.Operand.tmp 27, Go.Operand.const (Go.Value.int Go.IntKind.i64 2), Go.Operand.tmp 32, Go.Operand.tmp 33], argTypes := #[27, 3, 32, 32] }, type := 99, pos := "note.go:115", after := #[{ on := 4, ground := Go.Ground.data }, { on := 9, ground := Go.Ground.data }, { on := 10, ground := Go.Ground.data }], guard := none }) rfl (fun K hK => ?_) AllReadyH.nil)
  go_simp
  refine (casn_n (v := X) (HA3.out.after ZC.out).rd rfl HS.out HIB.out HT.out).mono ?_
  rintro e w2 ⟨k, rfl, hk0, hk, hb⟩
  go_wp2_with fail
  have HLO := Lib.hid (Nat.le_trans HLO3.out (Nat.le_trans ZC.out.size hk0))
  have HKK := Lib.hid hk
  replace ZC := Lib.hid (keep_call (w2 := w3) hb ZC.out)
  have e := HB3.out.after ZC.out; obtain ⟨b0, b1, b2, b3, b4, b5, b6, b7, b8, b9, b10, b11⟩ := e.cells; have fz := e.free; clear e
  clear hk hk0
  refine hK.out _ _ (kx_call HK.out (fun _ h => h.2) hg3 hb hHeld) (fun hHeld2 => ?_)
  clear hK K hHeld
  have hHeld := hHeld2
  clear hHeld2
  (try simp only [Act.put, List.setIfInBounds_toArray, List.set_cons_zero, List.set_cons_succ])
  refine wpAnyH_take (i := 12) (oi := { dst := some 22, op := Go.Op.move (Go.Operand.tmp 34), type := 99, pos := "note.go:115", after := #[{ on := 11, ground := Go.Ground.data }], guard := none }) (v := ?vrs611) rfl (by kernel_rfl) (by kernel_rfl) (by kernel_rfl) (fun _ _ _ h => h) (Or.inl ⟨by rfl, ?yrs611⟩) (by assumption) ?rrs611
  case yrs611 => (intro w hSw; (try dsimp only at hSw); go_simp; (try with_reducible rfl))
  (try simp only [Act.put, List.setIfInBounds_toArray, List.set_cons_zero, List.set_cons_succ])
  refine wpAnyH_take (i := 13) (oi := { dst := some 35, op := Go.Op.extract (Go.Operand.tmp 22) 0, type := 27, pos := "note.go:115", after := #[{ on := 12, ground := Go.Ground.data }], guard := none }) (v := ?vrs612) rfl (by kernel_rfl) (by kernel_rfl) (by kernel_rfl) (fun _ _ _ h => h) (Or.inl ⟨by rfl, ?yrs612⟩) (by assumption) ?rrs612
  case yrs612 => (intro w hSw; (try dsimp only at hSw); go_simp; (try with_reducible rfl))
  (try simp only [Act.put, List.setIfInBounds_toArray, List.set_cons_zero, List.set_cons_succ])
  refine wpAnyH_take (i := 14) (oi := { dst := some 36, op := Go.Op.extract (Go.Operand.tmp 22) 1, type := 4, pos := "note.go:115", after := #[{ on := 12, ground := Go.Ground.data }, { on := 17, ground := Go.Ground.gcOnly Go.Departure.lateStores }], guard := none }) (v := ?vrs613) rfl (by kernel_rfl) (by kernel_rfl) (by kernel_rfl) (fun _ _ _ h => h) (Or.inl ⟨by rfl, ?yrs613⟩) (by assumption) ?rrs613
  case yrs613 => (intro w hSw; (try dsimp only at hSw); go_simp; (try with_reducible rfl))
  (try simp only [Act.put, List.setIfInBounds_toArray, List.set_cons_zero, List.set_cons_succ])
  refine wpAnyH_take (i := 15) (oi := { dst := some 37, op := Go.Op.nilCheck (Go.Operand.tmp 23), type := 0, pos := "note.go:115", after := #[{ on := 0, ground := Go.Ground.data }, { on := 0, ground := Go.Ground.phase }, { on := 1, ground := Go.Ground.phase }, { on := 2, ground := Go.Ground.phase }, { on := 3, ground := Go.Ground.phase }, { on := 4, ground := Go.Ground.phase }, { on := 5, ground := Go.Ground.phase }, { on := 6, ground := Go.Ground.phase }, { on := 7, ground := Go.Ground.phase }, { on := 8, ground := Go.Ground.phase }, { on := 9, ground := Go.Ground.phase }, { on := 10, ground := Go.Ground.phase }, { on := 11, ground := Go.Ground.phase }, { on := 12, ground := Go.Ground.phase }, { on := 13, ground := Go.Ground.phase }, { on := 14, ground := Go.Ground.textOnly Go.Departure.lateStores }], guard := none }) (v := ?vrs614) rfl (by kernel_rfl) (by kernel_rfl) (by kernel_rfl) (fun _ _ _ h => h) (Or.inl ⟨by rfl, ?yrs614⟩) (by assumption) ?rrs614
  case yrs614 => (intro w hSw; (try dsimp only at hSw); go_simp; (try with_reducible rfl))
  (try simp only [Act.put, List.setIfInBounds_toArray, List.set_cons_zero, List.set_cons_succ])
  refine wpAnyH_take (i := 16) (oi := { dst := some 38, op := Go.Op.fieldAddr 66 (Go.Operand.tmp 37) 1, type := 0, pos := "note.go:115", after := #[{ on := 15, ground := Go.Ground.data }, { on := 0, ground := Go.Ground.phase }, { on := 1, ground := Go.Ground.phase }, { on := 2, ground := Go.Ground.phase }, { on := 3, ground := Go.Ground.phase }, { on := 4, ground := Go.Ground.phase }, { on := 5, ground := Go.Ground.phase }, { on := 6, ground := Go.Ground.phase }, { on := 7, ground := Go.Ground.phase }, { on := 8, ground := Go.Ground.phase }, { on := 9, ground := Go.Ground.phase }, { on := 10, ground := Go.Ground.phase }, { on := 11, ground := Go.Ground.phase }, { on := 12, ground := Go.Ground.phase }, { on := 13, ground := Go.Ground.phase }, { on := 14, ground := Go.Ground.textOnly Go.Departure.lateStores }], guard := none }) (v := ?vrs615) rfl (by kernel_rfl) (by kernel_rfl) (by kernel_rfl) (fun _ _ _ h => h) (Or.inl ⟨by rfl, ?yrs615⟩) (by assumption) ?rrs615
  case yrs615 => (intro w hSw; (try dsimp only at hSw); go_simp; (try with_reducible rfl))
  (try simp only [Act.put, List.setIfInBounds_toArray, List.set_cons_zero, List.set_cons_succ])
  refine wpAnyH_ready (rs := [17]) (by kernel_rfl) (by simp) ?_
  refine (AllReadyH.cons (o := { dst := none, op := Go.Op.store 27 (Go.Operand.tmp 38) (Go.Operand.tmp 35), type := 0, pos := "note.go:115", after := #[{ on := 16, ground := Go.Ground.data }, { on := 13, ground := Go.Ground.data }, { on := 11, ground := Go.Ground.chain }, { on := 0, ground := Go.Ground.phase }, { on := 1, ground := Go.Ground.phase }, { on := 2, ground := Go.Ground.phase }, { on := 3, ground := Go.Ground.phase }, { on := 4, ground := Go.Ground.phase }, { on := 5, ground := Go.Ground.phase }, { on := 6, ground := Go.Ground.phase }, { on := 7, ground := Go.Ground.phase }, { on := 8, ground := Go.Ground.phase }, { on := 9, ground := Go.Ground.phase }, { on := 10, ground := Go.Ground.phase }, { on := 11, ground := Go.Ground.phase }, { on := 12, ground := Go.Ground.phase }, { on := 13, ground := Go.Ground.phase }, { on := 14, ground := Go.Ground.textOnly Go.Departure.lateStores }], guard := none }) rfl (fun K hK => ?_) AllReadyH.nil)
  go_simp
  refine hK.out _ _ (kx_set HK.out (fun _ h => h.2) _ hHeld) (fun hHeld2 => ?_)
  clear hK K hHeld
  have hHeld := hHeld2
  clear hHeld2
  (try simp only [Act.put, List.setIfInBounds_toArray, List.set_cons_zero, List.set_cons_succ])
  refine wpAnyH_take (i := 18) (oi := { dst := some 4, op := Go.Op.assign (Go.Operand.tmp 36), type := 4, pos := "note.go:115", after := #[{ on := 14, ground := Go.Ground.data }, { on := 17, ground := Go.Ground.chain }, { on := 0, ground := Go.Ground.phase }, { on := 1, ground := Go.Ground.phase }, { on := 2, ground := Go.Ground.phase }, { on := 3, ground := Go.Ground.phase }, { on := 4, ground := Go.Ground.phase }, { on := 5, ground := Go.Ground.phase }, { on := 6, ground := Go.Ground.phase }, { on := 7, ground := Go.Ground.phase }, { on := 8, ground := Go.Ground.phase }, { on := 9, ground := Go.Ground.phase }, { on := 10, ground := Go.Ground.phase }, { on := 11, ground := Go.Ground.phase }, { on := 12, ground := Go.Ground.phase }, { on := 13, ground := Go.Ground.phase }, { on := 14, ground := Go.Ground.phase }, { on := 15, ground := Go.Ground.phase }, { on := 16, ground := Go.Ground.phase }, { on := 17, ground := Go.Ground.phase }], guard := none }) (v := ?vrs616) rfl (by kernel_rfl) (by kernel_rfl) (by kernel_rfl) (fun _ _ _ h => h) (Or.inl ⟨by rfl, ?yrs616⟩) (by assumption) ?rrs616
  case yrs616 => (intro w hSw; (try dsimp only at hSw); go_simp; (try with_reducible rfl))
  (try simp only [Act.put, List.setIfInBounds_toArray, List.set_cons_zero, List.set_cons_succ])
  refine wpAnyH_done (by kernel_rfl) ?_ _
  clear hHeld
  have e := HB3.out.after ZC.out
  have e2 : Bo (w2.setCell ⟨g, 4, none⟩ (.slice (some ⟨k, 0, none⟩) l.length l.length)) g W D J S (.slice (some ⟨k, 0, none⟩) T.length l.length) ⟨6, p, q, v, x, y, s⟩ := by rw [HTL.out]; exact e.setM _
  have eA : Rx lo g (w2.setCell ⟨g, 4, none⟩ (.slice (some ⟨k, 0, none⟩) l.length l.length)) (some ⟨k, 0, none⟩) T := (HKK.out.rx (HKK.out.ne_o e) HLO.out).set rfl _
  have eb : Below g w (w2.setCell ⟨g, 4, none⟩ (.slice (some ⟨k, 0, none⟩) l.length l.length)) := ((HZ3.out.trans (ZC.out.mono HZ3.out.size)).mono (Nat.le_of_lt hg)).setCell (Nat.le_refl _) _
  generalize w2.setCell ⟨g, 4, none⟩ (.slice (some ⟨k, 0, none⟩) l.length l.length) = w4 at e2 eA eb ⊢
  clear e ZC HKK HLO a0 a1 a2 a3 a4 a5 a6 a7 a8 a9 a10 a11 b0 b1 b2 b3 b4 b5 b6 b7 b8 b9 b10 b11 fz HB HA HB3 HA3 HZ3 HLO3
  obtain ⟨c0, c1, c2, c3, c4, c5, c6, c7, c8, c9, c10, c11⟩ := e2.cells
  have fz := e2.free
  have E := Lib.hid e2
  have EA := Lib.hid eA
  have EB := Lib.hid eb
  have hxm := HZ.out
  clear e2 eA eb
  cases b
  · obtain rfl : F = ⟨6, 0, q, v, x, y, s⟩ := HF.out
    clear hxm
    go_wp2
    refine bodyPost_ret (by simp [results, Try.results53, go_sem]; try rfl) rfl ?_
    exact ⟨_, _, rfl, E.out.setPc _, EA.out.set rfl _, EB.out.setCell (Nat.le_refl _) _⟩
  · cases z
    · obtain rfl : F = ⟨6, 2, q, v, x, Y, s⟩ := HF.out
      go_wp2_with fail
      refine (mask_any x _ HX.out).mono ?_
      rintro _ _ ⟨rfl, rfl⟩
      go_wp2
      refine bodyPost_ret (by simp [results, Try.results53, go_sem]; try rfl) rfl ?_
      exact ⟨_, _, rfl, (E.out.setPc _).setY _, (EA.out.set rfl _).set rfl _, (EB.out.setCell (Nat.le_refl _) _).setCell (Nat.le_refl _) _⟩
    · obtain rfl : F = ed ⟨6, p, q, v, x, y, s⟩ 3 0 := HF.out
      go_wp2_with fail
      refine (mask_any x _ HX.out).mono ?_
      rintro _ _ ⟨rfl, rfl⟩
      go_wp2_with fail
      refine (nend_any lo g ⟨6, p, q, v, x, y, s⟩ W D J S 3 0 _ _ T _ E.out EA.out).mono ?_
      rintro _ w5 ⟨A', c', rfl, hb5, ha5, hbe5⟩
      go_wp2
      refine bodyPost_ret (by simp [results, Try.results53, go_sem]; try rfl) rfl ?_
      exact ⟨A', c', rfl, hb5, ha5, EB.out.trans hbe5⟩
set_option maxHeartbeats 4000000 in
set_option maxRecDepth 100000 in
theorem exchange_7 (lo g : Nat) (f : Fr) (W D J S : Int) (X Y : Int) (T : List Int) (b z : Bool) (F : Fr) (A : Option Addr) (c : Nat) (l : List Int) (w : World) (hB : Bo w g W D J S (.slice A l.length c) f) (hA : Rx lo g w A l) (hlo : lo ≤ w.heap.size) (ho : f.op = 7) (hx : U f.x) (hX : nxN 7 f.x = X) (hY : whN 7 f.x = Y) (hb : isAt l 2 f.x = b) (hT : (if isAt l 2 f.x = true then put l 2 X else l) = T) (hz : (f.x % 65536 == 0) = z) (hF : F = if b then (if z then ed f 3 0 else { f with pc := 2, y := Y }) else { f with pc := 0 }) (hs : l.length ≤ 500) :
    Calls Try.prog 53 #[.pointer (some ⟨g, 0, none⟩)] w (Lo lo w g F W D J S T) := by
  have HB := Lib.hid hB
  have HA := Lib.hid hA
  have HS := Lib.hid hs
  clear hB hA hs
  obtain ⟨o, p, q, v, x, y, s⟩ := f
  simp only at ho hx hX hY hb hT hz
  subst ho
  have HTL := Lib.hid (show T.length = l.length by rw [← hT]; split <;> simp [len_put])
  have HT := Lib.hid hT
  have HIB := Lib.hid hb
  have HF := Lib.hid hF
  have HX := Lib.hid hx
  have HX2 := Lib.hid hX
  have HY := Lib.hid hY
  have HZ := Lib.hid hz
  have HLW := Lib.hid hlo
  clear hb hT hF hx hX hY hz hlo
  have e := HB.out
  obtain ⟨a0, a1, a2, a3, a4, a5, a6, a7, a8, a9, a10, a11⟩ := e.cells
  have fz := e.free
  have hg := e.lt
  have HK0 := Lib.hid (show ∀ x', Below w.heap.size w x' → (fun w' => w'.cell? ⟨g, 5, none⟩ = some (.int .i64 7) ∧ w'.cell? ⟨g, 9, none⟩ = some (.int .u64 x) ∧ Below w.heap.size w w') x' from fun x' hx => ⟨(e.after hx).cells.2.2.2.2.2.1, (e.after hx).cells.2.2.2.2.2.2.2.2.2.1, hx⟩)
  have hHeld0 := HK0.out _ (Below.refl _ _)
  clear e
  have ZC := Lib.hid (Below.refl w.heap.size w).drew
  go_enter Try.func53, Try.ntmps53
  go_upto_region 0 with fail
  refine wp_region_held_drew (S := fun w' => w'.cell? ⟨g, 5, none⟩ = some (.int .i64 7) ∧ w'.cell? ⟨g, 9, none⟩ = some (.int .u64 x) ∧ Below w.heap.size w w') (by kernel_rfl) (hd_drew HK0.out (fun _ h => h.2.2) hHeld0) (fun hHeld => ?_)
  refine wpAnyH_take (i := 0) (oi := { dst := some 6, op := Go.Op.move (Go.Operand.tmp 0), type := 92, pos := "note.go:113", after := #[], guard := none }) (v := ?vrt71) rfl (by kernel_rfl) (by kernel_rfl) (by kernel_rfl) (fun _ _ _ h => h) (Or.inl ⟨by rfl, ?yrt71⟩) (by assumption) ?rrt71
  case yrt71 => (intro w hSw; (try dsimp only at hSw); go_simp; (try with_reducible rfl))
  (try simp only [Act.put, List.setIfInBounds_toArray, List.set_cons_zero, List.set_cons_succ])
  refine wpAnyH_take (i := 1) (oi := { dst := some 7, op := Go.Op.nilCheck (Go.Operand.tmp 6), type := 0, pos := "note.go:113", after := #[{ on := 0, ground := Go.Ground.data }], guard := none }) (v := ?vrt72) rfl (by kernel_rfl) (by kernel_rfl) (by kernel_rfl) (fun _ _ _ h => h) (Or.inl ⟨by rfl, ?yrt72⟩) (by assumption) ?rrt72
  case yrt72 => (intro w hSw; (try dsimp only at hSw); go_simp; (try with_reducible rfl))
  (try simp only [Act.put, List.setIfInBounds_toArray, List.set_cons_zero, List.set_cons_succ])
  refine wpAnyH_take (i := 2) (oi := { dst := some 8, op := Go.Op.fieldAddr 66 (Go.Operand.tmp 7) 2, type := 0, pos := "note.go:113", after := #[{ on := 1, ground := Go.Ground.data }], guard := none }) (v := ?vrt73) rfl (by kernel_rfl) (by kernel_rfl) (by kernel_rfl) (fun _ _ _ h => h) (Or.inl ⟨by rfl, ?yrt73⟩) (by assumption) ?rrt73
  case yrt73 => (intro w hSw; (try dsimp only at hSw); go_simp; (try with_reducible rfl))
  (try simp only [Act.put, List.setIfInBounds_toArray, List.set_cons_zero, List.set_cons_succ])
  refine wpAnyH_take (i := 3) (oi := { dst := some 9, op := Go.Op.fieldAddr 34 (Go.Operand.tmp 8) 4, type := 0, pos := "note.go:113", after := #[{ on := 2, ground := Go.Ground.data }], guard := none }) (v := ?vrt74) rfl (by kernel_rfl) (by kernel_rfl) (by kernel_rfl) (fun _ _ _ h => h) (Or.inl ⟨by rfl, ?yrt74⟩) (by assumption) ?rrt74
  case yrt74 => (intro w hSw; (try dsimp only at hSw); go_simp; (try with_reducible rfl))
  (try simp only [Act.put, List.setIfInBounds_toArray, List.set_cons_zero, List.set_cons_succ])
  refine wpAnyH_take (i := 4) (oi := { dst := some 10, op := Go.Op.load 32 (Go.Operand.tmp 9), type := 32, pos := "note.go:113", after := #[{ on := 3, ground := Go.Ground.data }], guard := none }) (v := ?vrt75) rfl (by kernel_rfl) (by kernel_rfl) (by kernel_rfl) (fun _ _ _ h => h) (Or.inl ⟨by rfl, ?yrt75⟩) (by assumption) ?rrt75
  case yrt75 => (intro w hSw; (try dsimp only at hSw); go_simp; (try with_reducible rfl))
  (try simp only [Act.put, List.setIfInBounds_toArray, List.set_cons_zero, List.set_cons_succ])
  refine wpAnyH_take (i := 6) (oi := { dst := some 12, op := Go.Op.move (Go.Operand.tmp 0), type := 92, pos := "note.go:113", after := #[], guard := none }) (v := ?vrt76) rfl (by kernel_rfl) (by kernel_rfl) (by kernel_rfl) (fun _ _ _ h => h) (Or.inl ⟨by rfl, ?yrt76⟩) (by assumption) ?rrt76
  case yrt76 => (intro w hSw; (try dsimp only at hSw); go_simp; (try with_reducible rfl))
  (try simp only [Act.put, List.setIfInBounds_toArray, List.set_cons_zero, List.set_cons_succ])
  refine wpAnyH_take (i := 7) (oi := { dst := some 13, op := Go.Op.nilCheck (Go.Operand.tmp 12), type := 0, pos := "note.go:113", after := #[{ on := 6, ground := Go.Ground.data }], guard := none }) (v := ?vrt77) rfl (by kernel_rfl) (by kernel_rfl) (by kernel_rfl) (fun _ _ _ h => h) (Or.inl ⟨by rfl, ?yrt77⟩) (by assumption) ?rrt77
  case yrt77 => (intro w hSw; (try dsimp only at hSw); go_simp; (try with_reducible rfl))
  (try simp only [Act.put, List.setIfInBounds_toArray, List.set_cons_zero, List.set_cons_succ])
  refine wpAnyH_take (i := 8) (oi := { dst := some 14, op := Go.Op.fieldAddr 66 (Go.Operand.tmp 13) 2, type := 0, pos := "note.go:113", after := #[{ on := 7, ground := Go.Ground.data }], guard := none }) (v := ?vrt78) rfl (by kernel_rfl) (by kernel_rfl) (by kernel_rfl) (fun _ _ _ h => h) (Or.inl ⟨by rfl, ?yrt78⟩) (by assumption) ?rrt78
  case yrt78 => (intro w hSw; (try dsimp only at hSw); go_simp; (try with_reducible rfl))
  (try simp only [Act.put, List.setIfInBounds_toArray, List.set_cons_zero, List.set_cons_succ])
  refine wpAnyH_take (i := 9) (oi := { dst := some 15, op := Go.Op.fieldAddr 34 (Go.Operand.tmp 14) 0, type := 0, pos := "note.go:113", after := #[{ on := 8, ground := Go.Ground.data }], guard := none }) (v := ?vrt79) rfl (by kernel_rfl) (by kernel_rfl) (by kernel_rfl) (fun _ _ _ h => h) (Or.inl ⟨by rfl, ?yrt79⟩) (by assumption) ?rrt79
  case yrt79 => (intro w hSw; (try dsimp only at hSw); go_simp; (try with_reducible rfl))
  (try simp only [Act.put, List.setIfInBounds_toArray, List.set_cons_zero, List.set_cons_succ])
  refine wpAnyH_take (i := 10) (oi := { dst := some 16, op := Go.Op.load 3 (Go.Operand.tmp 15), type := 3, pos := "note.go:113", after := #[{ on := 9, ground := Go.Ground.data }], guard := none }) (v := ?vrt710) rfl (by kernel_rfl) (by kernel_rfl) (by kernel_rfl) (fun _ _ _ h => h) (Or.inl ⟨by rfl, ?yrt710⟩) (by assumption) ?rrt710
  case yrt710 => (intro w hSw; (try dsimp only at hSw); go_simp; (try with_reducible rfl))
  (try simp only [Act.put, List.setIfInBounds_toArray, List.set_cons_zero, List.set_cons_succ])
  refine wpAnyH_ready (rs := [5]) (by kernel_rfl) (by simp) ?_
  refine (AllReadyH.cons (o := { dst := some 11, op := Go.Op.call { callee := Go.Callee.value (Go.Operand.func 50), args := #[], argTypes := #[] }, type := 89, pos := "note.go:113", after := #[], guard := none }) rfl (fun K hK => ?_) AllReadyH.nil)
  go_simp
  refine (nturns_any _).mono ?_
  rintro e w1 ⟨bm, rfl, hmp, hb⟩
  go_wp2_with fail
  replace ZC := Lib.hid (keep_call (w2 := w) hb ZC.out)
  have hlk := run_look hmp (k := 7) rfl false
  clear hb
  refine hK.out _ _ (HK0.out _ ZC.out) (fun hHeld2 => ?_)
  clear hK K hHeld
  have hHeld := hHeld2
  clear hHeld2
  (try simp only [Act.put, List.setIfInBounds_toArray, List.set_cons_zero, List.set_cons_succ])
  refine wpAnyH_ready (rs := [11]) (by kernel_rfl) (by simp) ?_
  refine (AllReadyH.cons (o := { dst := some 17, op := Go.Op.lookup 89 (Go.Operand.tmp 11) (Go.Operand.tmp 16) false, type := 87, pos := "note.go:113", after := #[{ on := 5, ground := Go.Ground.data }, { on := 10, ground := Go.Ground.data }], guard := none }) rfl (fun K hK => ?_) AllReadyH.nil)
  simp only [Bool.false_eq_true, if_false] at hlk
  go_simp
  refine hK.out _ _ (hHeld) (fun hHeld2 => ?_)
  clear hK K hHeld
  have hHeld := hHeld2
  clear hHeld2
  (try simp only [Act.put, List.setIfInBounds_toArray, List.set_cons_zero, List.set_cons_succ])
  refine wpAnyH_ready (rs := [12]) (by kernel_rfl) (by simp) ?_
  refine (AllReadyH.cons (o := { dst := some 18, op := Go.Op.buildSlice 108 1 #[(0, Go.Operand.tmp 17)], type := 108, pos := "note.go:113", after := #[{ on := 11, ground := Go.Ground.data }], guard := none }) rfl (fun K hK => ?_) AllReadyH.nil)
  go_simp
  replace ZC := Lib.hid (ZC.out.alloc ZC.out.size (.cells #[.func (.func 66) #[] #[]] 87))
  have HCB := Lib.hid (Boxed.new w1 87 (.func (.func 66) #[] #[])).cell
  have HCL := Lib.hid (show w1.heap.size < (w1.alloc (.cells #[.func (.func 66) #[] #[]] 87)).heap.size by simp)
  refine hK.out _ _ (HK0.out _ ZC.out) (fun hHeld2 => ?_)
  clear hK K hHeld
  have hHeld := hHeld2
  clear hHeld2
  (try simp only [Act.put, List.setIfInBounds_toArray, List.set_cons_zero, List.set_cons_succ])
  refine wpAnyH_ready (rs := [13]) (by kernel_rfl) (by simp) ?_
  refine (AllReadyH.cons (o := { dst := some 19, op := Go.Op.call { callee := Go.Callee.value (Go.Operand.func 67), args := #[Go.Operand.tmp 10, Go.Operand.tmp 18], argTypes := #[32, 108] }, type := 96, pos := "note.go:113", after := #[{ on := 4, ground := Go.Ground.data }, { on := 12, ground := Go.Ground.data }, { on := 5, ground := Go.Ground.chain }], guard := none }) rfl (fun K hK => ?_) AllReadyH.nil)
  go_simp
  refine (Tells.of (turned_7 x _ _ _ HX.out HCB.out HCL.out) (v' := .tuple #[.int .u64 X, .int .u64 Y]) (by rw [HX2.out, HY.out])).mono ?_
  rintro e w3 ⟨rfl, hb⟩
  go_wp2_with fail
  replace ZC := Lib.hid (keep_call (w2 := w) hb ZC.out)
  clear hb
  refine hK.out _ _ (HK0.out _ ZC.out) (fun hHeld2 => ?_)
  clear hK K hHeld
  have hHeld := hHeld2
  clear hHeld2
  (try simp only [Act.put, List.setIfInBounds_toArray, List.set_cons_zero, List.set_cons_succ])
  refine wpAnyH_take (i := 14) (oi := { dst := some 5, op := Go.Op.move (Go.Operand.tmp 19), type := 96, pos := "note.go:113", after := #[{ on := 13, ground := Go.Ground.data }], guard := none }) (v := ?vrt711) rfl (by kernel_rfl) (by kernel_rfl) (by kernel_rfl) (fun _ _ _ h => h) (Or.inl ⟨by rfl, ?yrt711⟩) (by assumption) ?rrt711
  case yrt711 => (intro w hSw; (try dsimp only at hSw); go_simp; (try with_reducible rfl))
  (try simp only [Act.put, List.setIfInBounds_toArray, List.set_cons_zero, List.set_cons_succ])
  refine wpAnyH_take (i := 15) (oi := { dst := some 20, op := Go.Op.extract (Go.Operand.tmp 5) 0, type := 32, pos := "note.go:113", after := #[{ on := 14, ground := Go.Ground.data }], guard := none }) (v := ?vrt712) rfl (by kernel_rfl) (by kernel_rfl) (by kernel_rfl) (fun _ _ _ h => h) (Or.inl ⟨by rfl, ?yrt712⟩) (by assumption) ?rrt712
  case yrt712 => (intro w hSw; (try dsimp only at hSw); go_simp; (try with_reducible rfl))
  (try simp only [Act.put, List.setIfInBounds_toArray, List.set_cons_zero, List.set_cons_succ])
  refine wpAnyH_take (i := 16) (oi := { dst := some 21, op := Go.Op.extract (Go.Operand.tmp 5) 1, type := 32, pos := "note.go:113", after := #[{ on := 14, ground := Go.Ground.data }, { on := 17, ground := Go.Ground.gcOnly Go.Departure.lateStores }], guard := none }) (v := ?vrt713) rfl (by kernel_rfl) (by kernel_rfl) (by kernel_rfl) (fun _ _ _ h => h) (Or.inl ⟨by rfl, ?yrt713⟩) (by assumption) ?rrt713
  case yrt713 => (intro w hSw; (try dsimp only at hSw); go_simp; (try with_reducible rfl))
  (try simp only [Act.put, List.setIfInBounds_toArray, List.set_cons_zero, List.set_cons_succ])
  refine wpAnyH_take (i := 17) (oi := { dst := some 2, op := Go.Op.assign (Go.Operand.tmp 20), type := 32, pos := "note.go:113", after := #[{ on := 15, ground := Go.Ground.data }, { on := 13, ground := Go.Ground.chain }, { on := 0, ground := Go.Ground.phase }, { on := 1, ground := Go.Ground.phase }, { on := 2, ground := Go.Ground.phase }, { on := 3, ground := Go.Ground.phase }, { on := 4, ground := Go.Ground.phase }, { on := 5, ground := Go.Ground.phase }, { on := 6, ground := Go.Ground.phase }, { on := 7, ground := Go.Ground.phase }, { on := 8, ground := Go.Ground.phase }, { on := 9, ground := Go.Ground.phase }, { on := 10, ground := Go.Ground.phase }, { on := 11, ground := Go.Ground.phase }, { on := 12, ground := Go.Ground.phase }, { on := 13, ground := Go.Ground.phase }, { on := 14, ground := Go.Ground.phase }, { on := 15, ground := Go.Ground.phase }, { on := 16, ground := Go.Ground.textOnly Go.Departure.lateStores }], guard := none }) (v := ?vrt714) rfl (by kernel_rfl) (by kernel_rfl) (by kernel_rfl) (fun _ _ _ h => h) (Or.inl ⟨by rfl, ?yrt714⟩) (by assumption) ?rrt714
  case yrt714 => (intro w hSw; (try dsimp only at hSw); go_simp; (try with_reducible rfl))
  (try simp only [Act.put, List.setIfInBounds_toArray, List.set_cons_zero, List.set_cons_succ])
  refine wpAnyH_take (i := 18) (oi := { dst := some 3, op := Go.Op.assign (Go.Operand.tmp 21), type := 32, pos := "note.go:113", after := #[{ on := 16, ground := Go.Ground.data }, { on := 17, ground := Go.Ground.chain }, { on := 0, ground := Go.Ground.phase }, { on := 1, ground := Go.Ground.phase }, { on := 2, ground := Go.Ground.phase }, { on := 3, ground := Go.Ground.phase }, { on := 4, ground := Go.Ground.phase }, { on := 5, ground := Go.Ground.phase }, { on := 6, ground := Go.Ground.phase }, { on := 7, ground := Go.Ground.phase }, { on := 8, ground := Go.Ground.phase }, { on := 9, ground := Go.Ground.phase }, { on := 10, ground := Go.Ground.phase }, { on := 11, ground := Go.Ground.phase }, { on := 12, ground := Go.Ground.phase }, { on := 13, ground := Go.Ground.phase }, { on := 14, ground := Go.Ground.phase }, { on := 15, ground := Go.Ground.phase }, { on := 16, ground := Go.Ground.phase }, { on := 17, ground := Go.Ground.phase }], guard := none }) (v := ?vrt715) rfl (by kernel_rfl) (by kernel_rfl) (by kernel_rfl) (fun _ _ _ h => h) (Or.inl ⟨by rfl, ?yrt715⟩) (by assumption) ?rrt715
  case yrt715 => (intro w hSw; (try dsimp only at hSw); go_simp; (try with_reducible rfl))
  (try simp only [Act.put, List.setIfInBounds_toArray, List.set_cons_zero, List.set_cons_succ])
  refine wpAnyH_done (by kernel_rfl) ?_ _
  clear hHeld0 hHeld HK0 hlk
  have e := HB.out.after ZC.out
  have eA := HA.out.after ZC.out
  have HB3 := Lib.hid e
  have HA3 := Lib.hid eA
  have HZ3 := Lib.hid ZC.out
  have HLO3 := Lib.hid (Nat.le_trans HLW.out ZC.out.size)
  clear a0 a1 a2 a3 a4 a5 a6 a7 a8 a9 a10 a11 fz eA
  obtain ⟨a0, a1, a2, a3, a4, a5, a6, a7, a8, a9, a10, a11⟩ := e.cells
  have fz := e.free
  have hg3 := e.lt
  clear ZC HCB HCL hmp
  go_upto_region 2 with fail
  have HK := Lib.hid (show ∀ x', Kx g 4 w3 x' → (fun w' => w'.cell? ⟨g, 9, none⟩ = some (.int .u64 x) ∧ Kx g 4 w3 w') x' from fun x' hx => ⟨(hx.cells 9 (by decide)).trans a9, hx⟩)
  have hHeld0 := HK.out _ (Kx.refl g 4 w3)
  have ZC := Lib.hid (Below.refl w3.heap.size w3).drew
  clear e
  refine wp_region_held_drew (S := fun w' => w'.cell? ⟨g, 9, none⟩ = some (.int .u64 x) ∧ Kx g 4 w3 w') (by kernel_rfl) (kx_drew HK.out (fun _ h => h.2) hHeld0) (fun hHeld => ?_)
  refine wpAnyH_take (i := 0) (oi := { dst := some 23, op := Go.Op.move (Go.Operand.tmp 0), type := 92, pos := "note.go:115", after := #[], guard := none }) (v := ?vrs71) rfl (by kernel_rfl) (by kernel_rfl) (by kernel_rfl) (fun _ _ _ h => h) (Or.inl ⟨by rfl, ?yrs71⟩) (by assumption) ?rrs71
  case yrs71 => (intro w hSw; (try dsimp only at hSw); go_simp; (try with_reducible rfl))
  (try simp only [Act.put, List.setIfInBounds_toArray, List.set_cons_zero, List.set_cons_succ])
  refine wpAnyH_take (i := 1) (oi := { dst := some 24, op := Go.Op.move (Go.Operand.tmp 0), type := 92, pos := "note.go:115", after := #[], guard := none }) (v := ?vrs72) rfl (by kernel_rfl) (by kernel_rfl) (by kernel_rfl) (fun _ _ _ h => h) (Or.inl ⟨by rfl, ?yrs72⟩) (by assumption) ?rrs72
  case yrs72 => (intro w hSw; (try dsimp only at hSw); go_simp; (try with_reducible rfl))
  (try simp only [Act.put, List.setIfInBounds_toArray, List.set_cons_zero, List.set_cons_succ])
  refine wpAnyH_take (i := 2) (oi := { dst := some 25, op := Go.Op.nilCheck (Go.Operand.tmp 24), type := 0, pos := "note.go:115", after := #[{ on := 1, ground := Go.Ground.data }], guard := none }) (v := ?vrs73) rfl (by kernel_rfl) (by kernel_rfl) (by kernel_rfl) (fun _ _ _ h => h) (Or.inl ⟨by rfl, ?yrs73⟩) (by assumption) ?rrs73
  case yrs73 => (intro w hSw; (try dsimp only at hSw); go_simp; (try with_reducible rfl))
  (try simp only [Act.put, List.setIfInBounds_toArray, List.set_cons_zero, List.set_cons_succ])
  refine wpAnyH_take (i := 3) (oi := { dst := some 26, op := Go.Op.fieldAddr 66 (Go.Operand.tmp 25) 1, type := 0, pos := "note.go:115", after := #[{ on := 2, ground := Go.Ground.data }], guard := none }) (v := ?vrs74) rfl (by kernel_rfl) (by kernel_rfl) (by kernel_rfl) (fun _ _ _ h => h) (Or.inl ⟨by rfl, ?yrs74⟩) (by assumption) ?rrs74
  case yrs74 => (intro w hSw; (try dsimp only at hSw); go_simp; (try with_reducible rfl))
  (try simp only [Act.put, List.setIfInBounds_toArray, List.set_cons_zero, List.set_cons_succ])
  refine wpAnyH_take (i := 5) (oi := { dst := some 28, op := Go.Op.move (Go.Operand.tmp 0), type := 92, pos := "note.go:115", after := #[], guard := none }) (v := ?vrs75) rfl (by kernel_rfl) (by kernel_rfl) (by kernel_rfl) (fun _ _ _ h => h) (Or.inl ⟨by rfl, ?yrs75⟩) (by assumption) ?rrs75
  case yrs75 => (intro w hSw; (try dsimp only at hSw); go_simp; (try with_reducible rfl))
  (try simp only [Act.put, List.setIfInBounds_toArray, List.set_cons_zero, List.set_cons_succ])
  refine wpAnyH_take (i := 6) (oi := { dst := some 29, op := Go.Op.nilCheck (Go.Operand.tmp 28), type := 0, pos := "note.go:115", after := #[{ on := 5, ground := Go.Ground.data }], guard := none }) (v := ?vrs76) rfl (by kernel_rfl) (by kernel_rfl) (by kernel_rfl) (fun _ _ _ h => h) (Or.inl ⟨by rfl, ?yrs76⟩) (by assumption) ?rrs76
  case yrs76 => (intro w hSw; (try dsimp only at hSw); go_simp; (try with_reducible rfl))
  (try simp only [Act.put, List.setIfInBounds_toArray, List.set_cons_zero, List.set_cons_succ])
  refine wpAnyH_take (i := 7) (oi := { dst := some 30, op := Go.Op.fieldAddr 66 (Go.Operand.tmp 29) 2, type := 0, pos := "note.go:115", after := #[{ on := 6, ground := Go.Ground.data }], guard := none }) (v := ?vrs77) rfl (by kernel_rfl) (by kernel_rfl) (by kernel_rfl) (fun _ _ _ h => h) (Or.inl ⟨by rfl, ?yrs77⟩) (by assumption) ?rrs77
  case yrs77 => (intro w hSw; (try dsimp only at hSw); go_simp; (try with_reducible rfl))
  (try simp only [Act.put, List.setIfInBounds_toArray, List.set_cons_zero, List.set_cons_succ])
  refine wpAnyH_take (i := 8) (oi := { dst := some 31, op := Go.Op.fieldAddr 34 (Go.Operand.tmp 30) 4, type := 0, pos := "note.go:115", after := #[{ on := 7, ground := Go.Ground.data }], guard := none }) (v := ?vrs78) rfl (by kernel_rfl) (by kernel_rfl) (by kernel_rfl) (fun _ _ _ h => h) (Or.inl ⟨by rfl, ?yrs78⟩) (by assumption) ?rrs78
  case yrs78 => (intro w hSw; (try dsimp only at hSw); go_simp; (try with_reducible rfl))
  (try simp only [Act.put, List.setIfInBounds_toArray, List.set_cons_zero, List.set_cons_succ])
  refine wpAnyH_take (i := 9) (oi := { dst := some 32, op := Go.Op.load 32 (Go.Operand.tmp 31), type := 32, pos := "note.go:115", after := #[{ on := 8, ground := Go.Ground.data }], guard := none }) (v := ?vrs79) rfl (by kernel_rfl) (by kernel_rfl) (by kernel_rfl) (fun _ _ _ h => h) (Or.inl ⟨by rfl, ?yrs79⟩) (by assumption) ?rrs79
  case yrs79 => (intro w hSw; (try dsimp only at hSw); go_simp; (try with_reducible rfl))
  (try simp only [Act.put, List.setIfInBounds_toArray, List.set_cons_zero, List.set_cons_succ])
  refine wpAnyH_take (i := 10) (oi := { dst := some 33, op := Go.Op.move (Go.Operand.tmp 2), type := 32, pos := "note.go:115", after := #[], guard := none }) (v := ?vrs710) rfl (by kernel_rfl) (by kernel_rfl) (by kernel_rfl) (fun _ _ _ h => h) (Or.inl ⟨by rfl, ?yrs710⟩) (by assumption) ?rrs710
  case yrs710 => (intro w hSw; (try dsimp only at hSw); go_simp; (try with_reducible rfl))
  (try simp only [Act.put, List.setIfInBounds_toArray, List.set_cons_zero, List.set_cons_succ])
  refine wpAnyH_ready (rs := [4]) (by kernel_rfl) (by simp) ?_
  refine (AllReadyH.cons (o := { dst := some 27, op := Go.Op.load 27 (Go.Operand.tmp 26), type := 27, pos := "note.go:115", after := #[{ on := 3, ground := Go.Ground.data }], guard := none }) rfl (fun K hK => ?_) AllReadyH.nil)
  go_simp
  refine hK.out _ _ (hHeld) (fun hHeld2 => ?_)
  clear hK K hHeld
  have hHeld := hHeld2
  clear hHeld2
  (try simp only [Act.put, List.setIfInBounds_toArray, List.set_cons_zero, List.set_cons_succ])
  refine wpAnyH_ready (rs := [11]) (by kernel_rfl) (by simp) ?_
  refine (AllReadyH.cons (o := { dst := some 34, op := Go.Op.call { callee := Go.Callee.value (Go.Operand.func 68), args := #[Go.Operand.tmp 27, Go.Operand.const (Go.Value.int Go.IntKind.i64 2), Go.Operand.tmp 32, Go.Operand.tmp 33], argTypes := #[27, 3, 32, 32] }, type := 99, pos := "note.go:115", after := #[{ on := 4, ground := Go.Ground.data }, { on := 9, ground := Go.Ground.data }, { on := 10, ground := Go.Ground.data }], guard := none }) rfl (fun K hK => ?_) AllReadyH.nil)
  go_simp
  refine (casn_n (v := X) (HA3.out.after ZC.out).rd rfl HS.out HIB.out HT.out).mono ?_
  rintro e w2 ⟨k, rfl, hk0, hk, hb⟩
  go_wp2_with fail
  have HLO := Lib.hid (Nat.le_trans HLO3.out (Nat.le_trans ZC.out.size hk0))
  have HKK := Lib.hid hk
  replace ZC := Lib.hid (keep_call (w2 := w3) hb ZC.out)
  have e := HB3.out.after ZC.out; obtain ⟨b0, b1, b2, b3, b4, b5, b6, b7, b8, b9, b10, b11⟩ := e.cells; have fz := e.free; clear e
  clear hk hk0
  refine hK.out _ _ (kx_call HK.out (fun _ h => h.2) hg3 hb hHeld) (fun hHeld2 => ?_)
  clear hK K hHeld
  have hHeld := hHeld2
  clear hHeld2
  (try simp only [Act.put, List.setIfInBounds_toArray, List.set_cons_zero, List.set_cons_succ])
  refine wpAnyH_take (i := 12) (oi := { dst := some 22, op := Go.Op.move (Go.Operand.tmp 34), type := 99, pos := "note.go:115", after := #[{ on := 11, ground := Go.Ground.data }], guard := none }) (v := ?vrs711) rfl (by kernel_rfl) (by kernel_rfl) (by kernel_rfl) (fun _ _ _ h => h) (Or.inl ⟨by rfl, ?yrs711⟩) (by assumption) ?rrs711
  case yrs711 => (intro w hSw; (try dsimp only at hSw); go_simp; (try with_reducible rfl))
  (try simp only [Act.put, List.setIfInBounds_toArray, List.set_cons_zero, List.set_cons_succ])
  refine wpAnyH_take (i := 13) (oi := { dst := some 35, op := Go.Op.extract (Go.Operand.tmp 22) 0, type := 27, pos := "note.go:115", after := #[{ on := 12, ground := Go.Ground.data }], guard := none }) (v := ?vrs712) rfl (by kernel_rfl) (by kernel_rfl) (by kernel_rfl) (fun _ _ _ h => h) (Or.inl ⟨by rfl, ?yrs712⟩) (by assumption) ?rrs712
  case yrs712 => (intro w hSw; (try dsimp only at hSw); go_simp; (try with_reducible rfl))
  (try simp only [Act.put, List.setIfInBounds_toArray, List.set_cons_zero, List.set_cons_succ])
  refine wpAnyH_take (i := 14) (oi := { dst := some 36, op := Go.Op.extract (Go.Operand.tmp 22) 1, type := 4, pos := "note.go:115", after := #[{ on := 12, ground := Go.Ground.data }, { on := 17, ground := Go.Ground.gcOnly Go.Departure.lateStores }], guard := none }) (v := ?vrs713) rfl (by kernel_rfl) (by kernel_rfl) (by kernel_rfl) (fun _ _ _ h => h) (Or.inl ⟨by rfl, ?yrs713⟩) (by assumption) ?rrs713
  case yrs713 => (intro w hSw; (try dsimp only at hSw); go_simp; (try with_reducible rfl))
  (try simp only [Act.put, List.setIfInBounds_toArray, List.set_cons_zero, List.set_cons_succ])
  refine wpAnyH_take (i := 15) (oi := { dst := some 37, op := Go.Op.nilCheck (Go.Operand.tmp 23), type := 0, pos := "note.go:115", after := #[{ on := 0, ground := Go.Ground.data }, { on := 0, ground := Go.Ground.phase }, { on := 1, ground := Go.Ground.phase }, { on := 2, ground := Go.Ground.phase }, { on := 3, ground := Go.Ground.phase }, { on := 4, ground := Go.Ground.phase }, { on := 5, ground := Go.Ground.phase }, { on := 6, ground := Go.Ground.phase }, { on := 7, ground := Go.Ground.phase }, { on := 8, ground := Go.Ground.phase }, { on := 9, ground := Go.Ground.phase }, { on := 10, ground := Go.Ground.phase }, { on := 11, ground := Go.Ground.phase }, { on := 12, ground := Go.Ground.phase }, { on := 13, ground := Go.Ground.phase }, { on := 14, ground := Go.Ground.textOnly Go.Departure.lateStores }], guard := none }) (v := ?vrs714) rfl (by kernel_rfl) (by kernel_rfl) (by kernel_rfl) (fun _ _ _ h => h) (Or.inl ⟨by rfl, ?yrs714⟩) (by assumption) ?rrs714
  case yrs714 => (intro w hSw; (try dsimp only at hSw); go_simp; (try with_reducible rfl))
  (try simp only [Act.put, List.setIfInBounds_toArray, List.set_cons_zero, List.set_cons_succ])
  refine wpAnyH_take (i := 16) (oi := { dst := some 38, op := Go.Op.fieldAddr 66 (Go.Operand.tmp 37) 1, type := 0, pos := "note.go:115", after := #[{ on := 15, ground := Go.Ground.data }, { on := 0, ground := Go.Ground.phase }, { on := 1, ground := Go.Ground.phase }, { on := 2, ground := Go.Ground.phase }, { on := 3, ground := Go.Ground.phase }, { on := 4, ground := Go.Ground.phase }, { on := 5, ground := Go.Ground.phase }, { on := 6, ground := Go.Ground.phase }, { on := 7, ground := Go.Ground.phase }, { on := 8, ground := Go.Ground.phase }, { on := 9, ground := Go.Ground.phase }, { on := 10, ground := Go.Ground.phase }, { on := 11, ground := Go.Ground.phase }, { on := 12, ground := Go.Ground.phase }, { on := 13, ground := Go.Ground.phase }, { on := 14, ground := Go.Ground.textOnly Go.Departure.lateStores }], guard := none }) (v := ?vrs715) rfl (by kernel_rfl) (by kernel_rfl) (by kernel_rfl) (fun _ _ _ h => h) (Or.inl ⟨by rfl, ?yrs715⟩) (by assumption) ?rrs715
  case yrs715 => (intro w hSw; (try dsimp only at hSw); go_simp; (try with_reducible rfl))
  (try simp only [Act.put, List.setIfInBounds_toArray, List.set_cons_zero, List.set_cons_succ])
  refine wpAnyH_ready (rs := [17]) (by kernel_rfl) (by simp) ?_
  refine (AllReadyH.cons (o := { dst := none, op := Go.Op.store 27 (Go.Operand.tmp 38) (Go.Operand.tmp 35), type := 0, pos := "note.go:115", after := #[{ on := 16, ground := Go.Ground.data }, { on := 13, ground := Go.Ground.data }, { on := 11, ground := Go.Ground.chain }, { on := 0, ground := Go.Ground.phase }, { on := 1, ground := Go.Ground.phase }, { on := 2, ground := Go.Ground.phase }, { on := 3, ground := Go.Ground.phase }, { on := 4, ground := Go.Ground.phase }, { on := 5, ground := Go.Ground.phase }, { on := 6, ground := Go.Ground.phase }, { on := 7, ground := Go.Ground.phase }, { on := 8, ground := Go.Ground.phase }, { on := 9, ground := Go.Ground.phase }, { on := 10, ground := Go.Ground.phase }, { on := 11, ground := Go.Ground.phase }, { on := 12, ground := Go.Ground.phase }, { on := 13, ground := Go.Ground.phase }, { on := 14, ground := Go.Ground.textOnly Go.Departure.lateStores }], guard := none }) rfl (fun K hK => ?_) AllReadyH.nil)
  go_simp
  refine hK.out _ _ (kx_set HK.out (fun _ h => h.2) _ hHeld) (fun hHeld2 => ?_)
  clear hK K hHeld
  have hHeld := hHeld2
  clear hHeld2
  (try simp only [Act.put, List.setIfInBounds_toArray, List.set_cons_zero, List.set_cons_succ])
  refine wpAnyH_take (i := 18) (oi := { dst := some 4, op := Go.Op.assign (Go.Operand.tmp 36), type := 4, pos := "note.go:115", after := #[{ on := 14, ground := Go.Ground.data }, { on := 17, ground := Go.Ground.chain }, { on := 0, ground := Go.Ground.phase }, { on := 1, ground := Go.Ground.phase }, { on := 2, ground := Go.Ground.phase }, { on := 3, ground := Go.Ground.phase }, { on := 4, ground := Go.Ground.phase }, { on := 5, ground := Go.Ground.phase }, { on := 6, ground := Go.Ground.phase }, { on := 7, ground := Go.Ground.phase }, { on := 8, ground := Go.Ground.phase }, { on := 9, ground := Go.Ground.phase }, { on := 10, ground := Go.Ground.phase }, { on := 11, ground := Go.Ground.phase }, { on := 12, ground := Go.Ground.phase }, { on := 13, ground := Go.Ground.phase }, { on := 14, ground := Go.Ground.phase }, { on := 15, ground := Go.Ground.phase }, { on := 16, ground := Go.Ground.phase }, { on := 17, ground := Go.Ground.phase }], guard := none }) (v := ?vrs716) rfl (by kernel_rfl) (by kernel_rfl) (by kernel_rfl) (fun _ _ _ h => h) (Or.inl ⟨by rfl, ?yrs716⟩) (by assumption) ?rrs716
  case yrs716 => (intro w hSw; (try dsimp only at hSw); go_simp; (try with_reducible rfl))
  (try simp only [Act.put, List.setIfInBounds_toArray, List.set_cons_zero, List.set_cons_succ])
  refine wpAnyH_done (by kernel_rfl) ?_ _
  clear hHeld
  have e := HB3.out.after ZC.out
  have e2 : Bo (w2.setCell ⟨g, 4, none⟩ (.slice (some ⟨k, 0, none⟩) l.length l.length)) g W D J S (.slice (some ⟨k, 0, none⟩) T.length l.length) ⟨7, p, q, v, x, y, s⟩ := by rw [HTL.out]; exact e.setM _
  have eA : Rx lo g (w2.setCell ⟨g, 4, none⟩ (.slice (some ⟨k, 0, none⟩) l.length l.length)) (some ⟨k, 0, none⟩) T := (HKK.out.rx (HKK.out.ne_o e) HLO.out).set rfl _
  have eb : Below g w (w2.setCell ⟨g, 4, none⟩ (.slice (some ⟨k, 0, none⟩) l.length l.length)) := ((HZ3.out.trans (ZC.out.mono HZ3.out.size)).mono (Nat.le_of_lt hg)).setCell (Nat.le_refl _) _
  generalize w2.setCell ⟨g, 4, none⟩ (.slice (some ⟨k, 0, none⟩) l.length l.length) = w4 at e2 eA eb ⊢
  clear e ZC HKK HLO a0 a1 a2 a3 a4 a5 a6 a7 a8 a9 a10 a11 b0 b1 b2 b3 b4 b5 b6 b7 b8 b9 b10 b11 fz HB HA HB3 HA3 HZ3 HLO3
  obtain ⟨c0, c1, c2, c3, c4, c5, c6, c7, c8, c9, c10, c11⟩ := e2.cells
  have fz := e2.free
  have E := Lib.hid e2
  have EA := Lib.hid eA
  have EB := Lib.hid eb
  have hxm := HZ.out
  clear e2 eA eb
  cases b
  · obtain rfl : F = ⟨7, 0, q, v, x, y, s⟩ := HF.out
    clear hxm
    go_wp2
    refine bodyPost_ret (by simp [results, Try.results53, go_sem]; try rfl) rfl ?_
    exact ⟨_, _, rfl, E.out.setPc _, EA.out.set rfl _, EB.out.setCell (Nat.le_refl _) _⟩
  · cases z
    · obtain rfl : F = ⟨7, 2, q, v, x, Y, s⟩ := HF.out
      go_wp2_with fail
      refine (mask_any x _ HX.out).mono ?_
      rintro _ _ ⟨rfl, rfl⟩
      go_wp2
      refine bodyPost_ret (by simp [results, Try.results53, go_sem]; try rfl) rfl ?_
      exact ⟨_, _, rfl, (E.out.setPc _).setY _, (EA.out.set rfl _).set rfl _, (EB.out.setCell (Nat.le_refl _) _).setCell (Nat.le_refl _) _⟩
    · obtain rfl : F = ed ⟨7, p, q, v, x, y, s⟩ 3 0 := HF.out
      go_wp2_with fail
      refine (mask_any x _ HX.out).mono ?_
      rintro _ _ ⟨rfl, rfl⟩
      go_wp2_with fail
      refine (nend_any lo g ⟨7, p, q, v, x, y, s⟩ W D J S 3 0 _ _ T _ E.out EA.out).mono ?_
      rintro _ w5 ⟨A', c', rfl, hb5, ha5, hbe5⟩
      go_wp2
      refine bodyPost_ret (by simp [results, Try.results53, go_sem]; try rfl) rfl ?_
      exact ⟨A', c', rfl, hb5, ha5, EB.out.trans hbe5⟩
set_option maxHeartbeats 4000000 in
set_option maxRecDepth 100000 in
theorem wake_6 (lo g : Nat) (f : Fr) (W D J S : Int) (A : Option Addr) (c : Nat) (l : List Int) (w : World) (hB : Bo w g W D J S (.slice A l.length c) f) (hA : Rx lo g w A l) (hlo : lo ≤ w.heap.size) (ho : f.op = 6) (hs : l.length ≤ 500) :
    Calls Try.prog 54 #[.pointer (some ⟨g, 0, none⟩)] w (Lo lo w g (ed f 1 f.y) W D J S (put l (ow W D J S (wrap64 f.y) 2) 1)) := by
  have HB := Lib.hid hB
  have HA := Lib.hid hA
  have HS := Lib.hid hs
  clear hB hA hs
  obtain ⟨o, p, q, v, x, y, s⟩ := f
  simp only at ho
  subst ho
  show Calls _ _ _ _ (Lo lo w g (ed ⟨6, p, q, v, x, y, s⟩ 1 y) W D J S (put l (ow W D J S (wrap64 y) 2) 1))
  obtain ⟨r, hr⟩ : ∃ r, wrap64 y = r := ⟨_, rfl⟩
  rw [hr]
  have e := HB.out
  obtain ⟨a0, a1, a2, a3, a4, a5, a6, a7, a8, a9, a10, a11⟩ := e.cells
  have fz := e.free
  have hg := e.lt
  clear e
  go_enter Try.func54, Try.ntmps54
  go_wp2_with fail
  refine (nunpark_any lo g ⟨6, p, q, v, x, y, s⟩ W D J S r A c l _ HB.out HA.out hlo HS.out).mono ?_
  rintro _ w2 ⟨A2, c2, rfl, hb2, ha2, hbe2⟩
  clear a0 a1 a2 a3 a4 a5 a6 a7 a8 a9 a10 a11 fz
  obtain ⟨a0, a1, a2, a3, a4, a5, a6, a7, a8, a9, a10, a11⟩ := hb2.cells
  have fz := hb2.free
  have HB2 := Lib.hid hb2
  have HA2 := Lib.hid ha2
  have HZ2 := Lib.hid hbe2
  clear hb2 ha2 hbe2
  go_wp2_with fail
  refine (nend_any lo g ⟨6, p, q, v, x, y, s⟩ W D J S 1 y A2 c2 _ _ HB2.out HA2.out).mono ?_
  rintro _ w5 ⟨A', c', rfl, hb5, ha5, hbe5⟩
  go_wp2
  refine bodyPost_ret (by simp [results, Try.results54, go_sem]; try rfl) rfl ?_
  exact ⟨A', c', rfl, hb5, ha5, HZ2.out.trans hbe5⟩
set_option maxHeartbeats 4000000 in
set_option maxRecDepth 100000 in
theorem wake_7 (lo g : Nat) (f : Fr) (W D J S : Int) (R : Int) (z : Bool) (F : Fr) (A : Option Addr) (c : Nat) (l : List Int) (w : World) (hB : Bo w g W D J S (.slice A l.length c) f) (hA : Rx lo g w A l) (hlo : lo ≤ w.heap.size) (ho : (f.op == 6) = false) (hx : U f.x) (hy : U f.y) (hR : rs f.y = R) (hz : (R == 0) = z) (hF : F = if z then ed f 1 (f.x % 65536) else { f with y := R }) (hs : l.length ≤ 500) :
    Calls Try.prog 54 #[.pointer (some ⟨g, 0, none⟩)] w (Lo lo w g F W D J S (put l (ow W D J S (lw f.y) 2) 1)) := by
  have HB := Lib.hid hB
  have HA := Lib.hid hA
  have HS := Lib.hid hs
  clear hB hA hs
  obtain ⟨o, p, q, v, x, y, s⟩ := f
  simp only at ho hx hy hR
  show Calls _ _ _ _ (Lo lo w g F W D J S (put l (ow W D J S (lw y) 2) 1))
  obtain ⟨M, hM⟩ : ∃ M, y % 65536 = M := ⟨_, rfl⟩
  obtain ⟨r, hr⟩ : ∃ r, lw y = r := ⟨_, rfl⟩
  have had := and_down y M R hM hR
  have HX := Lib.hid hx
  have HY := Lib.hid hy
  have HF := Lib.hid hF
  have HM := Lib.hid hM
  have HR := Lib.hid (show lw M = r by rw [← hM, lw_mask]; exact hr)
  have HUM := Lib.hid (show U M by rw [← hM]; exact mask_u y)
  rw [hr]
  clear hx hy hR hF hM hr
  have e := HB.out
  obtain ⟨a0, a1, a2, a3, a4, a5, a6, a7, a8, a9, a10, a11⟩ := e.cells
  have fz := e.free
  have hg := e.lt
  clear e
  go_enter Try.func54, Try.ntmps54
  go_wp2_with fail
  refine (ret_of (mask_any y _ HY.out).tells (v' := .int .u64 M) (by rw [HM.out])).mono ?_
  rintro _ w3 ⟨rfl, hb⟩
  have Z2 := Lib.hid hb
  have e := HB.out.after hb
  clear a0 a1 a2 a3 a4 a5 a6 a7 a8 a9 a10 a11 fz
  obtain ⟨a0, a1, a2, a3, a4, a5, a6, a7, a8, a9, a10, a11⟩ := e.cells
  have fz := e.free
  clear hb e
  go_wp2_with fail
  refine (ret_of (lowest_any M _ HUM.out) (v' := .int .i64 r) (by rw [HR.out])).mono ?_
  rintro _ w4 ⟨rfl, hb⟩
  have Z4 := Lib.hid hb
  have e := (HB.out.after Z2.out).after hb
  clear a0 a1 a2 a3 a4 a5 a6 a7 a8 a9 a10 a11 fz
  obtain ⟨a0, a1, a2, a3, a4, a5, a6, a7, a8, a9, a10, a11⟩ := e.cells
  have fz := e.free
  clear hb e
  go_wp2_with fail
  refine (nunpark_any lo g ⟨o, p, q, v, x, y, s⟩ W D J S r A c l _ ((HB.out.after Z2.out).after Z4.out) ((HA.out.after Z2.out).after Z4.out) (Nat.le_trans hlo (Nat.le_trans Z2.out.size Z4.out.size)) HS.out).mono ?_
  rintro _ w2 ⟨A2, c2, rfl, hb2, ha2, hbe2⟩
  clear a0 a1 a2 a3 a4 a5 a6 a7 a8 a9 a10 a11 fz
  obtain ⟨a0, a1, a2, a3, a4, a5, a6, a7, a8, a9, a10, a11⟩ := hb2.cells
  have fz := hb2.free
  have HB2 := Lib.hid hb2
  have HA2 := Lib.hid ha2
  have HZ2 := Lib.hid hbe2
  clear hb2 ha2 hbe2
  cases z
  · obtain rfl : F = ⟨o, p, q, v, x, R, s⟩ := HF.out
    go_wp2
    refine bodyPost_ret (by simp [results, Try.results54, go_sem]; try rfl) rfl ?_
    exact ⟨_, _, rfl, HB2.out.setY _, HA2.out.set rfl _, (((Z2.out.trans (Z4.out.mono Z2.out.size)).mono (Nat.le_of_lt hg)).trans HZ2.out).setCell (Nat.le_refl _) _⟩
  · obtain rfl : F = ed ⟨o, p, q, v, x, R, s⟩ 1 (x % 65536) := HF.out
    go_wp2_with fail
    refine (mask_any x _ HX.out).mono ?_
    rintro _ _ ⟨rfl, rfl⟩
    go_wp2_with fail
    refine (nend_any lo g ⟨o, p, q, v, x, R, s⟩ W D J S 1 (x % 65536) A2 c2 _ _ (HB2.out.setY _) (HA2.out.set rfl _)).mono ?_
    rintro _ w5 ⟨A', c', rfl, hb5, ha5, hbe5⟩
    go_wp2
    refine bodyPost_ret (by simp [results, Try.results54, go_sem]; try rfl) rfl ?_
    exact ⟨A', c', rfl, hb5, ha5, ((((Z2.out.trans (Z4.out.mono Z2.out.size)).mono (Nat.le_of_lt hg)).trans HZ2.out).setCell (Nat.le_refl _) _).trans hbe5⟩
end Go.Proofs.Ytgemaeibmgkneaa
