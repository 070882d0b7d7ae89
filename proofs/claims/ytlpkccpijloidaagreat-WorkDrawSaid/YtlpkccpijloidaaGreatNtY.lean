/- Merged: NtC, NtD. -/
import Derived.Test.YtlpkccpijloidaaGreatNtX
import Derived.Deep.CutRange
import Derived.Deep.DeepCutAuto
import Derived.Test.YtlpkccpijloidaaGreatDqB2
namespace Go.Proofs.YtlpkccpijloidaaGreat
set_option linter.unusedSimpArgs false
set_option maxRecDepth 100000
open Go.RowKit Go.Deep
/-- A mask without its lowest bit. -/
theorem nat_and_down (n k : Nat) (h : n / 2 ^ k % 2 = 1) (h0 : n % 2 ^ k = 0) : n &&& (n - 1) = n - 2 ^ k := by
  have hp : 0 < 2 ^ k := Nat.two_pow_pos k
  have e1 : n = 2 ^ (k + 1) * (n / 2 ^ (k + 1)) + 2 ^ k := by
    have h1 := Nat.div_add_mod n (2 ^ (k + 1))
    rw [Nat.mod_pow_succ, h, h0, Nat.mul_one, Nat.zero_add] at h1
    exact h1.symm
  generalize n / 2 ^ (k + 1) = q at e1
  have hs : 2 ^ (k + 1) = 2 ^ k + 2 ^ k := by rw [Nat.pow_succ]; omega
  have lt1 : 2 ^ k < 2 ^ (k + 1) := by omega
  have lt2 : 2 ^ k - 1 < 2 ^ (k + 1) := by omega
  have e2 : n - 1 = 2 ^ (k + 1) * q + (2 ^ k - 1) := by omega
  have e3 : n - 2 ^ k = 2 ^ (k + 1) * q + 0 := by omega
  rw [e2, e3, e1]
  apply Nat.eq_of_testBit_eq
  intro i
  rw [Nat.testBit_and, Nat.testBit_two_pow_mul_add _ lt1, Nat.testBit_two_pow_mul_add _ lt2, Nat.testBit_two_pow_mul_add _ (Nat.two_pow_pos _)]
  split
  · rw [Nat.testBit_two_pow, Nat.testBit_two_pow_sub_one]
    by_cases c : k = i
    · subst c; simp
    · simp [c]
  · simp
theorem and_down (y M R : Int) (h : y % 65536 = M) (hr : rs y = R) : bits .and .u64 M (IntKind.u64.wrap (M - 1)) = R := by
  have hm : 0 ≤ M ∧ M < 65536 := by omega
  rw [← hr]
  unfold rs
  rw [h]
  rcases lw_cases y with ⟨e, h0⟩ | ⟨k, hk, e, hb, h0⟩
  · rw [e, if_neg (by omega)]
    obtain rfl : M = 0 := by omega
    decide
  · rw [e, if_pos (by omega), Int.toNat_natCast]
    rw [← bit_mask y k hk, h] at hb
    have hm0 : M % 2 ^ k = 0 := by
      clear e
      rw [← h]
      rcases pow_cases hk with rfl | rfl | rfl | rfl | rfl | rfl | rfl | rfl | rfl | rfl | rfl | rfl | rfl | rfl | rfl | rfl <;> simp at h0 ⊢ <;> omega
    obtain ⟨n, rfl⟩ := Int.eq_ofNat_of_zero_le hm.1
    have hb' : n / 2 ^ k % 2 = 1 := by exact_mod_cast hb
    have h0' : n % 2 ^ k = 0 := by exact_mod_cast hm0
    have h1 := (nat_less_or n k hb').1
    have hp : 0 < 2 ^ k := Nat.two_pow_pos k
    have c : IntKind.u64.wrap ((n : Int) - 1) = ((n - 1 : Nat) : Int) := by rw [IntKind.wrap_u64]; omega
    rw [c, show ((n : Int) - 2 ^ k) = ((n - 2 ^ k : Nat) : Int) by rw [Int.natCast_sub h1]; simp, ← nat_and_down n k hb' h0', u64_and _ _ (by omega) (by omega) (by omega) (by omega), Int.toNat_natCast, Int.toNat_natCast]
set_option maxHeartbeats 4000000 in
theorem exchange_6 (lo g : Nat) (f : Fr) (W D J S : Int) (X Y : Int) (T : List Int) (b z : Bool) (F : Fr) (A : Option Addr) (c : Nat) (l : List Int) (w : World) (hB : Bo w g W D J S (.slice A l.length c) f) (hA : Rx lo g w A l) (hlo : lo ≤ w.heap.size) (ho : f.op = 6) (hx : U f.x) (hX : nxN 6 f.x = X) (hY : whN 6 f.x = Y) (hb : isAt l 2 f.x = b) (hT : (if isAt l 2 f.x = true then put l 2 X else l) = T) (hz : (f.x % 65536 == 0) = z) (hF : F = if b then (if z then ed f 3 0 else { f with pc := 2, y := Y }) else { f with pc := 0 }) (hs : l.length ≤ 500) :
    Calls Tryz.prog 121 #[.pointer (some ⟨g, 0, none⟩)] w (Lo lo w g F W D J S T) := by
  have HB := Lib.hid hB
  have HA := Lib.hid hA
  have HS := Lib.hid hs
  clear hB hA hs
  obtain ⟨o, p, q, v, x, y, s⟩ := f
  simp only at ho hx hX hY hb hT hz
  subst ho
  have HTL := Lib.hid (show T.length = l.length by rw [← hT]; split <;> simp [len_put])
  have HT := Lib.hid hT
  have HIB := Lib.hid hb
  have HF := Lib.hid hF
  have HX := Lib.hid hx
  have HX2 := Lib.hid hX
  have HY := Lib.hid hY
  have HZ := Lib.hid hz
  have HLW := Lib.hid hlo
  clear hb hT hF hx hX hY hz hlo
  have e := HB.out
  obtain ⟨a0, a1, a2, a3, a4, a5, a6, a7, a8, a9, a10, a11⟩ := e.cells
  have fz := e.free
  have hg := e.lt
  have HK0 := Lib.hid (show ∀ x', Below w.heap.size w x' → (fun w' => w'.cell? ⟨g, 5, none⟩ = some (.int .i64 6) ∧ w'.cell? ⟨g, 9, none⟩ = some (.int .u64 x) ∧ Below w.heap.size w w') x' from fun x' hx => ⟨(e.after hx).cells.2.2.2.2.2.1, (e.after hx).cells.2.2.2.2.2.2.2.2.2.1, hx⟩)
  have hHeld0 := HK0.out _ (Below.refl _ _)
  clear e
  have ZC := Lib.hid (Below.refl w.heap.size w).drew
  go_enter Tryz.func121, Tryz.ntmps121
  go_upto_region 0 with fail
  refine wp_region_held_drew (S := fun w' => w'.cell? ⟨g, 5, none⟩ = some (.int .i64 6) ∧ w'.cell? ⟨g, 9, none⟩ = some (.int .u64 x) ∧ Below w.heap.size w w') (by kernel_rfl) (hd_drew HK0.out (fun _ h => h.2.2) hHeld0) (fun hHeld => ?_)
  refine tkH 0 (v := ?vrt61) rfl ?yrt61 ?rrt61
  case yrt61 => (intro w hSw; (try dsimp only at hSw); go_simp; (try with_reducible rfl))
  (try simp only [Act.put, jA, jB, jC])
  refine tkH 1 (v := ?vrt62) rfl ?yrt62 ?rrt62
  case yrt62 => (intro w hSw; (try dsimp only at hSw); go_simp; (try with_reducible rfl))
  (try simp only [Act.put, jA, jB, jC])
  refine tkH 2 (v := ?vrt63) rfl ?yrt63 ?rrt63
  case yrt63 => (intro w hSw; (try dsimp only at hSw); go_simp; (try with_reducible rfl))
  (try simp only [Act.put, jA, jB, jC])
  refine tkH 3 (v := ?vrt64) rfl ?yrt64 ?rrt64
  case yrt64 => (intro w hSw; (try dsimp only at hSw); go_simp; (try with_reducible rfl))
  (try simp only [Act.put, jA, jB, jC])
  refine tkH 4 (v := ?vrt65) rfl ?yrt65 ?rrt65
  case yrt65 => (intro w hSw; (try dsimp only at hSw); go_simp; (try with_reducible rfl))
  (try simp only [Act.put, jA, jB, jC])
  refine tkH 6 (v := ?vrt66) rfl ?yrt66 ?rrt66
  case yrt66 => (intro w hSw; (try dsimp only at hSw); go_simp; (try with_reducible rfl))
  (try simp only [Act.put, jA, jB, jC])
  refine tkH 7 (v := ?vrt67) rfl ?yrt67 ?rrt67
  case yrt67 => (intro w hSw; (try dsimp only at hSw); go_simp; (try with_reducible rfl))
  (try simp only [Act.put, jA, jB, jC])
  refine tkH 8 (v := ?vrt68) rfl ?yrt68 ?rrt68
  case yrt68 => (intro w hSw; (try dsimp only at hSw); go_simp; (try with_reducible rfl))
  (try simp only [Act.put, jA, jB, jC])
  refine tkH 9 (v := ?vrt69) rfl ?yrt69 ?rrt69
  case yrt69 => (intro w hSw; (try dsimp only at hSw); go_simp; (try with_reducible rfl))
  (try simp only [Act.put, jA, jB, jC])
  refine tkH 10 (v := ?vrt610) rfl ?yrt610 ?rrt610
  case yrt610 => (intro w hSw; (try dsimp only at hSw); go_simp; (try with_reducible rfl))
  (try simp only [Act.put, jA, jB, jC])
  refine wpAnyH_ready (rs := [5]) (by kernel_rfl) (by simp) ?_
  refine (AllReadyH.cons rfl (fun K hK => ?_) AllReadyH.nil)
  go_simp
  refine (nturns_any _).mono ?_
  rintro e w1 ⟨bm, rfl, hmp, hb⟩
  go_wp2_with fail
  replace ZC := Lib.hid (keep_call (w2 := w) hb ZC.out)
  have hlk := run_look hmp (k := 6) rfl false
  clear hb
  refine hK.out _ _ (HK0.out _ ZC.out) (fun hHeld2 => ?_)
  clear hK K hHeld
  have hHeld := hHeld2
  clear hHeld2
  (try simp only [Act.put, jA, jB, jC])
  refine wpAnyH_ready (rs := [11]) (by kernel_rfl) (by simp) ?_
  refine (AllReadyH.cons rfl (fun K hK => ?_) AllReadyH.nil)
  simp only [Bool.false_eq_true, if_false] at hlk
  go_simp
  refine hK.out _ _ (hHeld) (fun hHeld2 => ?_)
  clear hK K hHeld
  have hHeld := hHeld2
  clear hHeld2
  (try simp only [Act.put, jA, jB, jC])
  refine wpAnyH_ready (rs := [12]) (by kernel_rfl) (by simp) ?_
  refine (AllReadyH.cons rfl (fun K hK => ?_) AllReadyH.nil)
  go_simp
  replace ZC := Lib.hid (ZC.out.alloc ZC.out.size (.cells #[.func (.func 157) #[] #[]] 132))
  have HCB := Lib.hid (Boxed.new w1 132 (.func (.func 157) #[] #[])).cell
  have HCL := Lib.hid (show w1.heap.size < (w1.alloc (.cells #[.func (.func 157) #[] #[]] 132)).heap.size by simp)
  refine hK.out _ _ (HK0.out _ ZC.out) (fun hHeld2 => ?_)
  clear hK K hHeld
  have hHeld := hHeld2
  clear hHeld2
  (try simp only [Act.put, jA, jB, jC])
  refine wpAnyH_ready (rs := [13]) (by kernel_rfl) (by simp) ?_
  refine (AllReadyH.cons rfl (fun K hK => ?_) AllReadyH.nil)
  go_simp
  refine (Tells.of (turned_6 x _ _ _ HX.out HCB.out HCL.out) (v' := .tuple #[.int .u64 X, .int .u64 Y]) (by rw [HX2.out, HY.out])).mono ?_
  rintro e w3 ⟨rfl, hb⟩
  go_wp2_with fail
  replace ZC := Lib.hid (keep_call (w2 := w) hb ZC.out)
  clear hb
  refine hK.out _ _ (HK0.out _ ZC.out) (fun hHeld2 => ?_)
  clear hK K hHeld
  have hHeld := hHeld2
  clear hHeld2
  (try simp only [Act.put, jA, jB, jC])
  refine tkH 14 (v := ?vrt611) rfl ?yrt611 ?rrt611
  case yrt611 => (intro w hSw; (try dsimp only at hSw); go_simp; (try with_reducible rfl))
  (try simp only [Act.put, jA, jB, jC])
  refine tkH 15 (v := ?vrt612) rfl ?yrt612 ?rrt612
  case yrt612 => (intro w hSw; (try dsimp only at hSw); go_simp; (try with_reducible rfl))
  (try simp only [Act.put, jA, jB, jC])
  refine tkH 16 (v := ?vrt613) rfl ?yrt613 ?rrt613
  case yrt613 => (intro w hSw; (try dsimp only at hSw); go_simp; (try with_reducible rfl))
  (try simp only [Act.put, jA, jB, jC])
  refine tkH 17 (v := ?vrt614) rfl ?yrt614 ?rrt614
  case yrt614 => (intro w hSw; (try dsimp only at hSw); go_simp; (try with_reducible rfl))
  (try simp only [Act.put, jA, jB, jC])
  refine tkH 18 (v := ?vrt615) rfl ?yrt615 ?rrt615
  case yrt615 => (intro w hSw; (try dsimp only at hSw); go_simp; (try with_reducible rfl))
  (try simp only [Act.put, jA, jB, jC])
  refine wpAnyH_done (by kernel_rfl) ?_ _
  clear hHeld0 hHeld HK0 hlk
  have e := HB.out.after ZC.out
  have eA := HA.out.after ZC.out
  have HB3 := Lib.hid e
  have HA3 := Lib.hid eA
  have HZ3 := Lib.hid ZC.out
  have HLO3 := Lib.hid (Nat.le_trans HLW.out ZC.out.size)
  clear a0 a1 a2 a3 a4 a5 a6 a7 a8 a9 a10 a11 fz eA
  obtain ⟨a0, a1, a2, a3, a4, a5, a6, a7, a8, a9, a10, a11⟩ := e.cells
  have fz := e.free
  have hg3 := e.lt
  clear ZC HCB HCL hmp
  go_upto_region 2 with fail
  have HK := Lib.hid (show ∀ x', Kx g 4 w3 x' → (fun w' => w'.cell? ⟨g, 9, none⟩ = some (.int .u64 x) ∧ Kx g 4 w3 w') x' from fun x' hx => ⟨(hx.cells 9 (by decide)).trans a9, hx⟩)
  have hHeld0 := HK.out _ (Kx.refl g 4 w3)
  have ZC := Lib.hid (Below.refl w3.heap.size w3).drew
  clear e
  refine wp_region_held_drew (S := fun w' => w'.cell? ⟨g, 9, none⟩ = some (.int .u64 x) ∧ Kx g 4 w3 w') (by kernel_rfl) (kx_drew HK.out (fun _ h => h.2) hHeld0) (fun hHeld => ?_)
  refine tkH 0 (v := ?vrs61) rfl ?yrs61 ?rrs61
  case yrs61 => (intro w hSw; (try dsimp only at hSw); go_simp; (try with_reducible rfl))
  (try simp only [Act.put, jA, jB, jC])
  refine tkH 1 (v := ?vrs62) rfl ?yrs62 ?rrs62
  case yrs62 => (intro w hSw; (try dsimp only at hSw); go_simp; (try with_reducible rfl))
  (try simp only [Act.put, jA, jB, jC])
  refine tkH 2 (v := ?vrs63) rfl ?yrs63 ?rrs63
  case yrs63 => (intro w hSw; (try dsimp only at hSw); go_simp; (try with_reducible rfl))
  (try simp only [Act.put, jA, jB, jC])
  refine tkH 3 (v := ?vrs64) rfl ?yrs64 ?rrs64
  case yrs64 => (intro w hSw; (try dsimp only at hSw); go_simp; (try with_reducible rfl))
  (try simp only [Act.put, jA, jB, jC])
  refine tkH 5 (v := ?vrs65) rfl ?yrs65 ?rrs65
  case yrs65 => (intro w hSw; (try dsimp only at hSw); go_simp; (try with_reducible rfl))
  (try simp only [Act.put, jA, jB, jC])
  refine tkH 6 (v := ?vrs66) rfl ?yrs66 ?rrs66
  case yrs66 => (intro w hSw; (try dsimp only at hSw); go_simp; (try with_reducible rfl))
  (try simp only [Act.put, jA, jB, jC])
  refine tkH 7 (v := ?vrs67) rfl ?yrs67 ?rrs67
  case yrs67 => (intro w hSw; (try dsimp only at hSw); go_simp; (try with_reducible rfl))
  (try simp only [Act.put, jA, jB, jC])
  refine tkH 8 (v := ?vrs68) rfl ?yrs68 ?rrs68
  case yrs68 => (intro w hSw; (try dsimp only at hSw); go_simp; (try with_reducible rfl))
  (try simp only [Act.put, jA, jB, jC])
  refine tkH 9 (v := ?vrs69) rfl ?yrs69 ?rrs69
  case yrs69 => (intro w hSw; (try dsimp only at hSw); go_simp; (try with_reducible rfl))
  (try simp only [Act.put, jA, jB, jC])
  refine tkH 10 (v := ?vrs610) rfl ?yrs610 ?rrs610
  case yrs610 => (intro w hSw; (try dsimp only at hSw); go_simp; (try with_reducible rfl))
  (try simp only [Act.put, jA, jB, jC])
  refine wpAnyH_ready (rs := [4]) (by kernel_rfl) (by simp) ?_
  refine (AllReadyH.cons rfl (fun K hK => ?_) AllReadyH.nil)
  go_simp
  refine hK.out _ _ (hHeld) (fun hHeld2 => ?_)
  clear hK K hHeld
  have hHeld := hHeld2
  clear hHeld2
  (try simp only [Act.put, jA, jB, jC])
  refine wpAnyH_ready (rs := [11]) (by kernel_rfl) (by simp) ?_
  refine (AllReadyH.cons rfl (fun K hK => ?_) AllReadyH.nil)
  go_simp
  refine (casn_n (v := X) (HA3.out.after ZC.out).rd rfl HS.out HIB.out HT.out).mono ?_
  rintro e w2 ⟨k, rfl, hk0, hk, hb⟩
  go_wp2_with fail
  have HLO := Lib.hid (Nat.le_trans HLO3.out (Nat.le_trans ZC.out.size hk0))
  have HKK := Lib.hid hk
  replace ZC := Lib.hid (keep_call (w2 := w3) hb ZC.out)
  have e := HB3.out.after ZC.out; obtain ⟨b0, b1, b2, b3, b4, b5, b6, b7, b8, b9, b10, b11⟩ := e.cells; have fz := e.free; clear e
  clear hk hk0
  refine hK.out _ _ (kx_call HK.out (fun _ h => h.2) hg3 hb hHeld) (fun hHeld2 => ?_)
  clear hK K hHeld
  have hHeld := hHeld2
  clear hHeld2
  (try simp only [Act.put, jA, jB, jC])
  refine tkH 12 (v := ?vrs611) rfl ?yrs611 ?rrs611
  case yrs611 => (intro w hSw; (try dsimp only at hSw); go_simp; (try with_reducible rfl))
  (try simp only [Act.put, jA, jB, jC])
  refine tkH 13 (v := ?vrs612) rfl ?yrs612 ?rrs612
  case yrs612 => (intro w hSw; (try dsimp only at hSw); go_simp; (try with_reducible rfl))
  (try simp only [Act.put, jA, jB, jC])
  refine tkH 14 (v := ?vrs613) rfl ?yrs613 ?rrs613
  case yrs613 => (intro w hSw; (try dsimp only at hSw); go_simp; (try with_reducible rfl))
  (try simp only [Act.put, jA, jB, jC])
  refine tkH 15 (v := ?vrs614) rfl ?yrs614 ?rrs614
  case yrs614 => (intro w hSw; (try dsimp only at hSw); go_simp; (try with_reducible rfl))
  (try simp only [Act.put, jA, jB, jC])
  refine tkH 16 (v := ?vrs615) rfl ?yrs615 ?rrs615
  case yrs615 => (intro w hSw; (try dsimp only at hSw); go_simp; (try with_reducible rfl))
  (try simp only [Act.put, jA, jB, jC])
  refine wpAnyH_ready (rs := [17]) (by kernel_rfl) (by simp) ?_
  refine (AllReadyH.cons rfl (fun K hK => ?_) AllReadyH.nil)
  go_simp
  refine hK.out _ _ (kx_set HK.out (fun _ h => h.2) _ hHeld) (fun hHeld2 => ?_)
  clear hK K hHeld
  have hHeld := hHeld2
  clear hHeld2
  (try simp only [Act.put, jA, jB, jC])
  refine tkH 18 (v := ?vrs616) rfl ?yrs616 ?rrs616
  case yrs616 => (intro w hSw; (try dsimp only at hSw); go_simp; (try with_reducible rfl))
  (try simp only [Act.put, jA, jB, jC])
  refine wpAnyH_done (by kernel_rfl) ?_ _
  clear hHeld
  have e := HB3.out.after ZC.out
  have e2 : Bo (w2.setCell ⟨g, 4, none⟩ (.slice (some ⟨k, 0, none⟩) l.length l.length)) g W D J S (.slice (some ⟨k, 0, none⟩) T.length l.length) ⟨6, p, q, v, x, y, s⟩ := by rw [HTL.out]; exact e.setM _
  have eA : Rx lo g (w2.setCell ⟨g, 4, none⟩ (.slice (some ⟨k, 0, none⟩) l.length l.length)) (some ⟨k, 0, none⟩) T := (HKK.out.rx (HKK.out.ne_o e) HLO.out).set rfl _
  have eb : Below g w (w2.setCell ⟨g, 4, none⟩ (.slice (some ⟨k, 0, none⟩) l.length l.length)) := ((HZ3.out.trans (ZC.out.mono HZ3.out.size)).mono (Nat.le_of_lt hg)).setCell (Nat.le_refl _) _
  generalize w2.setCell ⟨g, 4, none⟩ (.slice (some ⟨k, 0, none⟩) l.length l.length) = w4 at e2 eA eb ⊢
  clear e ZC HKK HLO a0 a1 a2 a3 a4 a5 a6 a7 a8 a9 a10 a11 b0 b1 b2 b3 b4 b5 b6 b7 b8 b9 b10 b11 fz HB HA HB3 HA3 HZ3 HLO3
  obtain ⟨c0, c1, c2, c3, c4, c5, c6, c7, c8, c9, c10, c11⟩ := e2.cells
  have fz := e2.free
  have E := Lib.hid e2
  have EA := Lib.hid eA
  have EB := Lib.hid eb
  have hxm := HZ.out
  clear e2 eA eb
  cases b
  · obtain rfl : F = ⟨6, 0, q, v, x, y, s⟩ := HF.out
    clear hxm
    go_wp2
    refine bodyPost_ret (by simp [results, Tryz.results121, go_sem]; try rfl) rfl ?_
    exact ⟨_, _, rfl, E.out.setPc _, EA.out.set rfl _, EB.out.setCell (Nat.le_refl _) _⟩
  · cases z
    · obtain rfl : F = ⟨6, 2, q, v, x, Y, s⟩ := HF.out
      go_wp2_with fail
      refine (mask_any x _ HX.out).mono ?_
      rintro _ _ ⟨rfl, rfl⟩
      go_wp2
      refine bodyPost_ret (by simp [results, Tryz.results121, go_sem]; try rfl) rfl ?_
      exact ⟨_, _, rfl, (E.out.setPc _).setY _, (EA.out.set rfl _).set rfl _, (EB.out.setCell (Nat.le_refl _) _).setCell (Nat.le_refl _) _⟩
    · obtain rfl : F = ed ⟨6, p, q, v, x, y, s⟩ 3 0 := HF.out
      go_wp2_with fail
      refine (mask_any x _ HX.out).mono ?_
      rintro _ _ ⟨rfl, rfl⟩
      go_wp2_with fail
      refine (nend_any lo g ⟨6, p, q, v, x, y, s⟩ W D J S 3 0 _ _ T _ E.out EA.out).mono ?_
      rintro _ w5 ⟨A', c', rfl, hb5, ha5, hbe5⟩
      go_wp2
      refine bodyPost_ret (by simp [results, Tryz.results121, go_sem]; try rfl) rfl ?_
      exact ⟨A', c', rfl, hb5, ha5, EB.out.trans hbe5⟩
set_option maxHeartbeats 4000000 in
theorem exchange_7 (lo g : Nat) (f : Fr) (W D J S : Int) (X Y : Int) (T : List Int) (b z : Bool) (F : Fr) (A : Option Addr) (c : Nat) (l : List Int) (w : World) (hB : Bo w g W D J S (.slice A l.length c) f) (hA : Rx lo g w A l) (hlo : lo ≤ w.heap.size) (ho : f.op = 7) (hx : U f.x) (hX : nxN 7 f.x = X) (hY : whN 7 f.x = Y) (hb : isAt l 2 f.x = b) (hT : (if isAt l 2 f.x = true then put l 2 X else l) = T) (hz : (f.x % 65536 == 0) = z) (hF : F = if b then (if z then ed f 3 0 else { f with pc := 2, y := Y }) else { f with pc := 0 }) (hs : l.length ≤ 500) :
    Calls Tryz.prog 121 #[.pointer (some ⟨g, 0, none⟩)] w (Lo lo w g F W D J S T) := by
  have HB := Lib.hid hB
  have HA := Lib.hid hA
  have HS := Lib.hid hs
  clear hB hA hs
  obtain ⟨o, p, q, v, x, y, s⟩ := f
  simp only at ho hx hX hY hb hT hz
  subst ho
  have HTL := Lib.hid (show T.length = l.length by rw [← hT]; split <;> simp [len_put])
  have HT := Lib.hid hT
  have HIB := Lib.hid hb
  have HF := Lib.hid hF
  have HX := Lib.hid hx
  have HX2 := Lib.hid hX
  have HY := Lib.hid hY
  have HZ := Lib.hid hz
  have HLW := Lib.hid hlo
  clear hb hT hF hx hX hY hz hlo
  have e := HB.out
  obtain ⟨a0, a1, a2, a3, a4, a5, a6, a7, a8, a9, a10, a11⟩ := e.cells
  have fz := e.free
  have hg := e.lt
  have HK0 := Lib.hid (show ∀ x', Below w.heap.size w x' → (fun w' => w'.cell? ⟨g, 5, none⟩ = some (.int .i64 7) ∧ w'.cell? ⟨g, 9, none⟩ = some (.int .u64 x) ∧ Below w.heap.size w w') x' from fun x' hx => ⟨(e.after hx).cells.2.2.2.2.2.1, (e.after hx).cells.2.2.2.2.2.2.2.2.2.1, hx⟩)
  have hHeld0 := HK0.out _ (Below.refl _ _)
  clear e
  have ZC := Lib.hid (Below.refl w.heap.size w).drew
  go_enter Tryz.func121, Tryz.ntmps121
  go_upto_region 0 with fail
  refine wp_region_held_drew (S := fun w' => w'.cell? ⟨g, 5, none⟩ = some (.int .i64 7) ∧ w'.cell? ⟨g, 9, none⟩ = some (.int .u64 x) ∧ Below w.heap.size w w') (by kernel_rfl) (hd_drew HK0.out (fun _ h => h.2.2) hHeld0) (fun hHeld => ?_)
  refine tkH 0 (v := ?vrt71) rfl ?yrt71 ?rrt71
  case yrt71 => (intro w hSw; (try dsimp only at hSw); go_simp; (try with_reducible rfl))
  (try simp only [Act.put, jA, jB, jC])
  refine tkH 1 (v := ?vrt72) rfl ?yrt72 ?rrt72
  case yrt72 => (intro w hSw; (try dsimp only at hSw); go_simp; (try with_reducible rfl))
  (try simp only [Act.put, jA, jB, jC])
  refine tkH 2 (v := ?vrt73) rfl ?yrt73 ?rrt73
  case yrt73 => (intro w hSw; (try dsimp only at hSw); go_simp; (try with_reducible rfl))
  (try simp only [Act.put, jA, jB, jC])
  refine tkH 3 (v := ?vrt74) rfl ?yrt74 ?rrt74
  case yrt74 => (intro w hSw; (try dsimp only at hSw); go_simp; (try with_reducible rfl))
  (try simp only [Act.put, jA, jB, jC])
  refine tkH 4 (v := ?vrt75) rfl ?yrt75 ?rrt75
  case yrt75 => (intro w hSw; (try dsimp only at hSw); go_simp; (try with_reducible rfl))
  (try simp only [Act.put, jA, jB, jC])
  refine tkH 6 (v := ?vrt76) rfl ?yrt76 ?rrt76
  case yrt76 => (intro w hSw; (try dsimp only at hSw); go_simp; (try with_reducible rfl))
  (try simp only [Act.put, jA, jB, jC])
  refine tkH 7 (v := ?vrt77) rfl ?yrt77 ?rrt77
  case yrt77 => (intro w hSw; (try dsimp only at hSw); go_simp; (try with_reducible rfl))
  (try simp only [Act.put, jA, jB, jC])
  refine tkH 8 (v := ?vrt78) rfl ?yrt78 ?rrt78
  case yrt78 => (intro w hSw; (try dsimp only at hSw); go_simp; (try with_reducible rfl))
  (try simp only [Act.put, jA, jB, jC])
  refine tkH 9 (v := ?vrt79) rfl ?yrt79 ?rrt79
  case yrt79 => (intro w hSw; (try dsimp only at hSw); go_simp; (try with_reducible rfl))
  (try simp only [Act.put, jA, jB, jC])
  refine tkH 10 (v := ?vrt710) rfl ?yrt710 ?rrt710
  case yrt710 => (intro w hSw; (try dsimp only at hSw); go_simp; (try with_reducible rfl))
  (try simp only [Act.put, jA, jB, jC])
  refine wpAnyH_ready (rs := [5]) (by kernel_rfl) (by simp) ?_
  refine (AllReadyH.cons rfl (fun K hK => ?_) AllReadyH.nil)
  go_simp
  refine (nturns_any _).mono ?_
  rintro e w1 ⟨bm, rfl, hmp, hb⟩
  go_wp2_with fail
  replace ZC := Lib.hid (keep_call (w2 := w) hb ZC.out)
  have hlk := run_look hmp (k := 7) rfl false
  clear hb
  refine hK.out _ _ (HK0.out _ ZC.out) (fun hHeld2 => ?_)
  clear hK K hHeld
  have hHeld := hHeld2
  clear hHeld2
  (try simp only [Act.put, jA, jB, jC])
  refine wpAnyH_ready (rs := [11]) (by kernel_rfl) (by simp) ?_
  refine (AllReadyH.cons rfl (fun K hK => ?_) AllReadyH.nil)
  simp only [Bool.false_eq_true, if_false] at hlk
  go_simp
  refine hK.out _ _ (hHeld) (fun hHeld2 => ?_)
  clear hK K hHeld
  have hHeld := hHeld2
  clear hHeld2
  (try simp only [Act.put, jA, jB, jC])
  refine wpAnyH_ready (rs := [12]) (by kernel_rfl) (by simp) ?_
  refine (AllReadyH.cons rfl (fun K hK => ?_) AllReadyH.nil)
  go_simp
  replace ZC := Lib.hid (ZC.out.alloc ZC.out.size (.cells #[.func (.func 158) #[] #[]] 132))
  have HCB := Lib.hid (Boxed.new w1 132 (.func (.func 158) #[] #[])).cell
  have HCL := Lib.hid (show w1.heap.size < (w1.alloc (.cells #[.func (.func 158) #[] #[]] 132)).heap.size by simp)
  refine hK.out _ _ (HK0.out _ ZC.out) (fun hHeld2 => ?_)
  clear hK K hHeld
  have hHeld := hHeld2
  clear hHeld2
  (try simp only [Act.put, jA, jB, jC])
  refine wpAnyH_ready (rs := [13]) (by kernel_rfl) (by simp) ?_
  refine (AllReadyH.cons rfl (fun K hK => ?_) AllReadyH.nil)
  go_simp
  refine (Tells.of (turned_7 x _ _ _ HX.out HCB.out HCL.out) (v' := .tuple #[.int .u64 X, .int .u64 Y]) (by rw [HX2.out, HY.out])).mono ?_
  rintro e w3 ⟨rfl, hb⟩
  go_wp2_with fail
  replace ZC := Lib.hid (keep_call (w2 := w) hb ZC.out)
  clear hb
  refine hK.out _ _ (HK0.out _ ZC.out) (fun hHeld2 => ?_)
  clear hK K hHeld
  have hHeld := hHeld2
  clear hHeld2
  (try simp only [Act.put, jA, jB, jC])
  refine tkH 14 (v := ?vrt711) rfl ?yrt711 ?rrt711
  case yrt711 => (intro w hSw; (try dsimp only at hSw); go_simp; (try with_reducible rfl))
  (try simp only [Act.put, jA, jB, jC])
  refine tkH 15 (v := ?vrt712) rfl ?yrt712 ?rrt712
  case yrt712 => (intro w hSw; (try dsimp only at hSw); go_simp; (try with_reducible rfl))
  (try simp only [Act.put, jA, jB, jC])
  refine tkH 16 (v := ?vrt713) rfl ?yrt713 ?rrt713
  case yrt713 => (intro w hSw; (try dsimp only at hSw); go_simp; (try with_reducible rfl))
  (try simp only [Act.put, jA, jB, jC])
  refine tkH 17 (v := ?vrt714) rfl ?yrt714 ?rrt714
  case yrt714 => (intro w hSw; (try dsimp only at hSw); go_simp; (try with_reducible rfl))
  (try simp only [Act.put, jA, jB, jC])
  refine tkH 18 (v := ?vrt715) rfl ?yrt715 ?rrt715
  case yrt715 => (intro w hSw; (try dsimp only at hSw); go_simp; (try with_reducible rfl))
  (try simp only [Act.put, jA, jB, jC])
  refine wpAnyH_done (by kernel_rfl) ?_ _
  clear hHeld0 hHeld HK0 hlk
  have e := HB.out.after ZC.out
  have eA := HA.out.after ZC.out
  have HB3 := Lib.hid e
  have HA3 := Lib.hid eA
  have HZ3 := Lib.hid ZC.out
  have HLO3 := Lib.hid (Nat.le_trans HLW.out ZC.out.size)
  clear a0 a1 a2 a3 a4 a5 a6 a7 a8 a9 a10 a11 fz eA
  obtain ⟨a0, a1, a2, a3, a4, a5, a6, a7, a8, a9, a10, a11⟩ := e.cells
  have fz := e.free
  have hg3 := e.lt
  clear ZC HCB HCL hmp
  go_upto_region 2 with fail
  have HK := Lib.hid (show ∀ x', Kx g 4 w3 x' → (fun w' => w'.cell? ⟨g, 9, none⟩ = some (.int .u64 x) ∧ Kx g 4 w3 w') x' from fun x' hx => ⟨(hx.cells 9 (by decide)).trans a9, hx⟩)
  have hHeld0 := HK.out _ (Kx.refl g 4 w3)
  have ZC := Lib.hid (Below.refl w3.heap.size w3).drew
  clear e
  refine wp_region_held_drew (S := fun w' => w'.cell? ⟨g, 9, none⟩ = some (.int .u64 x) ∧ Kx g 4 w3 w') (by kernel_rfl) (kx_drew HK.out (fun _ h => h.2) hHeld0) (fun hHeld => ?_)
  refine tkH 0 (v := ?vrs71) rfl ?yrs71 ?rrs71
  case yrs71 => (intro w hSw; (try dsimp only at hSw); go_simp; (try with_reducible rfl))
  (try simp only [Act.put, jA, jB, jC])
  refine tkH 1 (v := ?vrs72) rfl ?yrs72 ?rrs72
  case yrs72 => (intro w hSw; (try dsimp only at hSw); go_simp; (try with_reducible rfl))
  (try simp only [Act.put, jA, jB, jC])
  refine tkH 2 (v := ?vrs73) rfl ?yrs73 ?rrs73
  case yrs73 => (intro w hSw; (try dsimp only at hSw); go_simp; (try with_reducible rfl))
  (try simp only [Act.put, jA, jB, jC])
  refine tkH 3 (v := ?vrs74) rfl ?yrs74 ?rrs74
  case yrs74 => (intro w hSw; (try dsimp only at hSw); go_simp; (try with_reducible rfl))
  (try simp only [Act.put, jA, jB, jC])
  refine tkH 5 (v := ?vrs75) rfl ?yrs75 ?rrs75
  case yrs75 => (intro w hSw; (try dsimp only at hSw); go_simp; (try with_reducible rfl))
  (try simp only [Act.put, jA, jB, jC])
  refine tkH 6 (v := ?vrs76) rfl ?yrs76 ?rrs76
  case yrs76 => (intro w hSw; (try dsimp only at hSw); go_simp; (try with_reducible rfl))
  (try simp only [Act.put, jA, jB, jC])
  refine tkH 7 (v := ?vrs77) rfl ?yrs77 ?rrs77
  case yrs77 => (intro w hSw; (try dsimp only at hSw); go_simp; (try with_reducible rfl))
  (try simp only [Act.put, jA, jB, jC])
  refine tkH 8 (v := ?vrs78) rfl ?yrs78 ?rrs78
  case yrs78 => (intro w hSw; (try dsimp only at hSw); go_simp; (try with_reducible rfl))
  (try simp only [Act.put, jA, jB, jC])
  refine tkH 9 (v := ?vrs79) rfl ?yrs79 ?rrs79
  case yrs79 => (intro w hSw; (try dsimp only at hSw); go_simp; (try with_reducible rfl))
  (try simp only [Act.put, jA, jB, jC])
  refine tkH 10 (v := ?vrs710) rfl ?yrs710 ?rrs710
  case yrs710 => (intro w hSw; (try dsimp only at hSw); go_simp; (try with_reducible rfl))
  (try simp only [Act.put, jA, jB, jC])
  refine wpAnyH_ready (rs := [4]) (by kernel_rfl) (by simp) ?_
  refine (AllReadyH.cons rfl (fun K hK => ?_) AllReadyH.nil)
  go_simp
  refine hK.out _ _ (hHeld) (fun hHeld2 => ?_)
  clear hK K hHeld
  have hHeld := hHeld2
  clear hHeld2
  (try simp only [Act.put, jA, jB, jC])
  refine wpAnyH_ready (rs := [11]) (by kernel_rfl) (by simp) ?_
  refine (AllReadyH.cons rfl (fun K hK => ?_) AllReadyH.nil)
  go_simp
  refine (casn_n (v := X) (HA3.out.after ZC.out).rd rfl HS.out HIB.out HT.out).mono ?_
  rintro e w2 ⟨k, rfl, hk0, hk, hb⟩
  go_wp2_with fail
  have HLO := Lib.hid (Nat.le_trans HLO3.out (Nat.le_trans ZC.out.size hk0))
  have HKK := Lib.hid hk
  replace ZC := Lib.hid (keep_call (w2 := w3) hb ZC.out)
  have e := HB3.out.after ZC.out; obtain ⟨b0, b1, b2, b3, b4, b5, b6, b7, b8, b9, b10, b11⟩ := e.cells; have fz := e.free; clear e
  clear hk hk0
  refine hK.out _ _ (kx_call HK.out (fun _ h => h.2) hg3 hb hHeld) (fun hHeld2 => ?_)
  clear hK K hHeld
  have hHeld := hHeld2
  clear hHeld2
  (try simp only [Act.put, jA, jB, jC])
  refine tkH 12 (v := ?vrs711) rfl ?yrs711 ?rrs711
  case yrs711 => (intro w hSw; (try dsimp only at hSw); go_simp; (try with_reducible rfl))
  (try simp only [Act.put, jA, jB, jC])
  refine tkH 13 (v := ?vrs712) rfl ?yrs712 ?rrs712
  case yrs712 => (intro w hSw; (try dsimp only at hSw); go_simp; (try with_reducible rfl))
  (try simp only [Act.put, jA, jB, jC])
  refine tkH 14 (v := ?vrs713) rfl ?yrs713 ?rrs713
  case yrs713 => (intro w hSw; (try dsimp only at hSw); go_simp; (try with_reducible rfl))
  (try simp only [Act.put, jA, jB, jC])
  refine tkH 15 (v := ?vrs714) rfl ?yrs714 ?rrs714
  case yrs714 => (intro w hSw; (try dsimp only at hSw); go_simp; (try with_reducible rfl))
  (try simp only [Act.put, jA, jB, jC])
  refine tkH 16 (v := ?vrs715) rfl ?yrs715 ?rrs715
  case yrs715 => (intro w hSw; (try dsimp only at hSw); go_simp; (try with_reducible rfl))
  (try simp only [Act.put, jA, jB, jC])
  refine wpAnyH_ready (rs := [17]) (by kernel_rfl) (by simp) ?_
  refine (AllReadyH.cons rfl (fun K hK => ?_) AllReadyH.nil)
  go_simp
  refine hK.out _ _ (kx_set HK.out (fun _ h => h.2) _ hHeld) (fun hHeld2 => ?_)
  clear hK K hHeld
  have hHeld := hHeld2
  clear hHeld2
  (try simp only [Act.put, jA, jB, jC])
  refine tkH 18 (v := ?vrs716) rfl ?yrs716 ?rrs716
  case yrs716 => (intro w hSw; (try dsimp only at hSw); go_simp; (try with_reducible rfl))
  (try simp only [Act.put, jA, jB, jC])
  refine wpAnyH_done (by kernel_rfl) ?_ _
  clear hHeld
  have e := HB3.out.after ZC.out
  have e2 : Bo (w2.setCell ⟨g, 4, none⟩ (.slice (some ⟨k, 0, none⟩) l.length l.length)) g W D J S (.slice (some ⟨k, 0, none⟩) T.length l.length) ⟨7, p, q, v, x, y, s⟩ := by rw [HTL.out]; exact e.setM _
  have eA : Rx lo g (w2.setCell ⟨g, 4, none⟩ (.slice (some ⟨k, 0, none⟩) l.length l.length)) (some ⟨k, 0, none⟩) T := (HKK.out.rx (HKK.out.ne_o e) HLO.out).set rfl _
  have eb : Below g w (w2.setCell ⟨g, 4, none⟩ (.slice (some ⟨k, 0, none⟩) l.length l.length)) := ((HZ3.out.trans (ZC.out.mono HZ3.out.size)).mono (Nat.le_of_lt hg)).setCell (Nat.le_refl _) _
  generalize w2.setCell ⟨g, 4, none⟩ (.slice (some ⟨k, 0, none⟩) l.length l.length) = w4 at e2 eA eb ⊢
  clear e ZC HKK HLO a0 a1 a2 a3 a4 a5 a6 a7 a8 a9 a10 a11 b0 b1 b2 b3 b4 b5 b6 b7 b8 b9 b10 b11 fz HB HA HB3 HA3 HZ3 HLO3
  obtain ⟨c0, c1, c2, c3, c4, c5, c6, c7, c8, c9, c10, c11⟩ := e2.cells
  have fz := e2.free
  have E := Lib.hid e2
  have EA := Lib.hid eA
  have EB := Lib.hid eb
  have hxm := HZ.out
  clear e2 eA eb
  cases b
  · obtain rfl : F = ⟨7, 0, q, v, x, y, s⟩ := HF.out
    clear hxm
    go_wp2
    refine bodyPost_ret (by simp [results, Tryz.results121, go_sem]; try rfl) rfl ?_
    exact ⟨_, _, rfl, E.out.setPc _, EA.out.set rfl _, EB.out.setCell (Nat.le_refl _) _⟩
  · cases z
    · obtain rfl : F = ⟨7, 2, q, v, x, Y, s⟩ := HF.out
      go_wp2_with fail
      refine (mask_any x _ HX.out).mono ?_
      rintro _ _ ⟨rfl, rfl⟩
      go_wp2
      refine bodyPost_ret (by simp [results, Tryz.results121, go_sem]; try rfl) rfl ?_
      exact ⟨_, _, rfl, (E.out.setPc _).setY _, (EA.out.set rfl _).set rfl _, (EB.out.setCell (Nat.le_refl _) _).setCell (Nat.le_refl _) _⟩
    · obtain rfl : F = ed ⟨7, p, q, v, x, y, s⟩ 3 0 := HF.out
      go_wp2_with fail
      refine (mask_any x _ HX.out).mono ?_
      rintro _ _ ⟨rfl, rfl⟩
      go_wp2_with fail
      refine (nend_any lo g ⟨7, p, q, v, x, y, s⟩ W D J S 3 0 _ _ T _ E.out EA.out).mono ?_
      rintro _ w5 ⟨A', c', rfl, hb5, ha5, hbe5⟩
      go_wp2
      refine bodyPost_ret (by simp [results, Tryz.results121, go_sem]; try rfl) rfl ?_
      exact ⟨A', c', rfl, hb5, ha5, EB.out.trans hbe5⟩
set_option maxHeartbeats 4000000 in
theorem wake_6 (lo g : Nat) (f : Fr) (W D J S : Int) (A : Option Addr) (c : Nat) (l : List Int) (w : World) (hB : Bo w g W D J S (.slice A l.length c) f) (hA : Rx lo g w A l) (hlo : lo ≤ w.heap.size) (ho : f.op = 6) (hs : l.length ≤ 500) :
    Calls Tryz.prog 122 #[.pointer (some ⟨g, 0, none⟩)] w (Lo lo w g (ed f 1 f.y) W D J S (put l (ow W D J S (wrap64 f.y) 2) 1)) := by
  have HB := Lib.hid hB
  have HA := Lib.hid hA
  have HS := Lib.hid hs
  clear hB hA hs
  obtain ⟨o, p, q, v, x, y, s⟩ := f
  simp only at ho
  subst ho
  show Calls _ _ _ _ (Lo lo w g (ed ⟨6, p, q, v, x, y, s⟩ 1 y) W D J S (put l (ow W D J S (wrap64 y) 2) 1))
  obtain ⟨r, hr⟩ : ∃ r, wrap64 y = r := ⟨_, rfl⟩
  rw [hr]
  have e := HB.out
  obtain ⟨a0, a1, a2, a3, a4, a5, a6, a7, a8, a9, a10, a11⟩ := e.cells
  have fz := e.free
  have hg := e.lt
  clear e
  go_enter Tryz.func122, Tryz.ntmps122
  go_wp2_with fail
  refine (nunpark_any lo g ⟨6, p, q, v, x, y, s⟩ W D J S r A c l _ HB.out HA.out hlo HS.out).mono ?_
  rintro _ w2 ⟨A2, c2, rfl, hb2, ha2, hbe2⟩
  clear a0 a1 a2 a3 a4 a5 a6 a7 a8 a9 a10 a11 fz
  obtain ⟨a0, a1, a2, a3, a4, a5, a6, a7, a8, a9, a10, a11⟩ := hb2.cells
  have fz := hb2.free
  have HB2 := Lib.hid hb2
  have HA2 := Lib.hid ha2
  have HZ2 := Lib.hid hbe2
  clear hb2 ha2 hbe2
  go_wp2_with fail
  refine (nend_any lo g ⟨6, p, q, v, x, y, s⟩ W D J S 1 y A2 c2 _ _ HB2.out HA2.out).mono ?_
  rintro _ w5 ⟨A', c', rfl, hb5, ha5, hbe5⟩
  go_wp2
  refine bodyPost_ret (by simp [results, Tryz.results122, go_sem]; try rfl) rfl ?_
  exact ⟨A', c', rfl, hb5, ha5, HZ2.out.trans hbe5⟩
set_option maxHeartbeats 4000000 in
theorem wake_7 (lo g : Nat) (f : Fr) (W D J S : Int) (R : Int) (z : Bool) (F : Fr) (A : Option Addr) (c : Nat) (l : List Int) (w : World) (hB : Bo w g W D J S (.slice A l.length c) f) (hA : Rx lo g w A l) (hlo : lo ≤ w.heap.size) (ho : (f.op == 6) = false) (hx : U f.x) (hy : U f.y) (hR : rs f.y = R) (hz : (R == 0) = z) (hF : F = if z then ed f 1 (f.x % 65536) else { f with y := R }) (hs : l.length ≤ 500) :
    Calls Tryz.prog 122 #[.pointer (some ⟨g, 0, none⟩)] w (Lo lo w g F W D J S (put l (ow W D J S (lw f.y) 2) 1)) := by
  have HB := Lib.hid hB
  have HA := Lib.hid hA
  have HS := Lib.hid hs
  clear hB hA hs
  obtain ⟨o, p, q, v, x, y, s⟩ := f
  simp only at ho hx hy hR
  show Calls _ _ _ _ (Lo lo w g F W D J S (put l (ow W D J S (lw y) 2) 1))
  obtain ⟨M, hM⟩ : ∃ M, y % 65536 = M := ⟨_, rfl⟩
  obtain ⟨r, hr⟩ : ∃ r, lw y = r := ⟨_, rfl⟩
  have had := and_down y M R hM hR
  have HX := Lib.hid hx
  have HY := Lib.hid hy
  have HF := Lib.hid hF
  have HM := Lib.hid hM
  have HR := Lib.hid (show lw M = r by rw [← hM, lw_mask]; exact hr)
  have HUM := Lib.hid (show U M by rw [← hM]; exact mask_u y)
  rw [hr]
  clear hx hy hR hF hM hr
  have e := HB.out
  obtain ⟨a0, a1, a2, a3, a4, a5, a6, a7, a8, a9, a10, a11⟩ := e.cells
  have fz := e.free
  have hg := e.lt
  clear e
  go_enter Tryz.func122, Tryz.ntmps122
  go_wp2_with fail
  refine (ret_of (mask_any y _ HY.out).tells (v' := .int .u64 M) (by rw [HM.out])).mono ?_
  rintro _ w3 ⟨rfl, hb⟩
  have Z2 := Lib.hid hb
  have e := HB.out.after hb
  clear a0 a1 a2 a3 a4 a5 a6 a7 a8 a9 a10 a11 fz
  obtain ⟨a0, a1, a2, a3, a4, a5, a6, a7, a8, a9, a10, a11⟩ := e.cells
  have fz := e.free
  clear hb e
  go_wp2_with fail
  refine (ret_of (lowest_any M _ HUM.out) (v' := .int .i64 r) (by rw [HR.out])).mono ?_
  rintro _ w4 ⟨rfl, hb⟩
  have Z4 := Lib.hid hb
  have e := (HB.out.after Z2.out).after hb
  clear a0 a1 a2 a3 a4 a5 a6 a7 a8 a9 a10 a11 fz
  obtain ⟨a0, a1, a2, a3, a4, a5, a6, a7, a8, a9, a10, a11⟩ := e.cells
  have fz := e.free
  clear hb e
  go_wp2_with fail
  refine (nunpark_any lo g ⟨o, p, q, v, x, y, s⟩ W D J S r A c l _ ((HB.out.after Z2.out).after Z4.out) ((HA.out.after Z2.out).after Z4.out) (Nat.le_trans hlo (Nat.le_trans Z2.out.size Z4.out.size)) HS.out).mono ?_
  rintro _ w2 ⟨A2, c2, rfl, hb2, ha2, hbe2⟩
  clear a0 a1 a2 a3 a4 a5 a6 a7 a8 a9 a10 a11 fz
  obtain ⟨a0, a1, a2, a3, a4, a5, a6, a7, a8, a9, a10, a11⟩ := hb2.cells
  have fz := hb2.free
  have HB2 := Lib.hid hb2
  have HA2 := Lib.hid ha2
  have HZ2 := Lib.hid hbe2
  clear hb2 ha2 hbe2
  cases z
  · obtain rfl : F = ⟨o, p, q, v, x, R, s⟩ := HF.out
    go_wp2
    refine bodyPost_ret (by simp [results, Tryz.results122, go_sem]; try rfl) rfl ?_
    exact ⟨_, _, rfl, HB2.out.setY _, HA2.out.set rfl _, (((Z2.out.trans (Z4.out.mono Z2.out.size)).mono (Nat.le_of_lt hg)).trans HZ2.out).setCell (Nat.le_refl _) _⟩
  · obtain rfl : F = ed ⟨o, p, q, v, x, R, s⟩ 1 (x % 65536) := HF.out
    go_wp2_with fail
    refine (mask_any x _ HX.out).mono ?_
    rintro _ _ ⟨rfl, rfl⟩
    go_wp2_with fail
    refine (nend_any lo g ⟨o, p, q, v, x, R, s⟩ W D J S 1 (x % 65536) A2 c2 _ _ (HB2.out.setY _) (HA2.out.set rfl _)).mono ?_
    rintro _ w5 ⟨A', c', rfl, hb5, ha5, hbe5⟩
    go_wp2
    refine bodyPost_ret (by simp [results, Tryz.results122, go_sem]; try rfl) rfl ?_
    exact ⟨A', c', rfl, hb5, ha5, ((((Z2.out.trans (Z4.out.mono Z2.out.size)).mono (Nat.le_of_lt hg)).trans HZ2.out).setCell (Nat.le_refl _) _).trans hbe5⟩
end Go.Proofs.YtlpkccpijloidaaGreat
namespace Go.Proofs.YtlpkccpijloidaaGreat
set_option linter.unusedSimpArgs false
set_option maxRecDepth 100000
open Go.RowKit Go.Deep
theorem nstep_0 {lo g : Nat} {W D J S : Int} {v : Value} {f f' : Fr} {l : List Int} {w : World} (hB : Bo w g W D J S v f) (hp : f.pc = 0) (h : Calls Tryz.prog 120 #[.pointer (some ⟨g, 0, none⟩)] w (Lo lo w g f' W D J S l)) :
    Calls Tryz.prog 103 #[.pointer (some ⟨g, 0, none⟩)] w (Lo lo w g f' W D J S l) := by
  have H := Lib.hid h
  have a6 := hB.cells.2.2.2.2.2.2.1
  rw [hp] at a6
  clear h hB hp
  go_enter Tryz.func103, Tryz.ntmps103
  go_wp2_with fail
  refine H.out.mono ?_
  rintro _ w2 ⟨A', c', rfl, hb, ha, hz⟩
  clear a6
  go_wp2
  refine bodyPost_ret (by simp [results, Tryz.results103, go_sem]; try rfl) rfl ?_
  exact ⟨A', c', rfl, hb, ha, hz⟩
theorem nstep_1 {lo g : Nat} {W D J S : Int} {v : Value} {f f' : Fr} {l : List Int} {w : World} (hB : Bo w g W D J S v f) (hp : f.pc = 1) (h : Calls Tryz.prog 121 #[.pointer (some ⟨g, 0, none⟩)] w (Lo lo w g f' W D J S l)) :
    Calls Tryz.prog 103 #[.pointer (some ⟨g, 0, none⟩)] w (Lo lo w g f' W D J S l) := by
  have H := Lib.hid h
  have a6 := hB.cells.2.2.2.2.2.2.1
  rw [hp] at a6
  clear h hB hp
  go_enter Tryz.func103, Tryz.ntmps103
  go_wp2_with fail
  refine H.out.mono ?_
  rintro _ w2 ⟨A', c', rfl, hb, ha, hz⟩
  clear a6
  go_wp2
  refine bodyPost_ret (by simp [results, Tryz.results103, go_sem]; try rfl) rfl ?_
  exact ⟨A', c', rfl, hb, ha, hz⟩
theorem nstep_2 {lo g : Nat} {W D J S : Int} {v : Value} {f f' : Fr} {l : List Int} {w : World} (hB : Bo w g W D J S v f) (hp : f.pc = 2) (h : Calls Tryz.prog 122 #[.pointer (some ⟨g, 0, none⟩)] w (Lo lo w g f' W D J S l)) :
    Calls Tryz.prog 103 #[.pointer (some ⟨g, 0, none⟩)] w (Lo lo w g f' W D J S l) := by
  have H := Lib.hid h
  have a6 := hB.cells.2.2.2.2.2.2.1
  rw [hp] at a6
  clear h hB hp
  go_enter Tryz.func103, Tryz.ntmps103
  go_wp2_with fail
  refine H.out.mono ?_
  rintro _ w2 ⟨A', c', rfl, hb, ha, hz⟩
  clear a6
  go_wp2
  refine bodyPost_ret (by simp [results, Tryz.results103, go_sem]; try rfl) rfl ?_
  exact ⟨A', c', rfl, hb, ha, hz⟩
set_option maxHeartbeats 4000000 in
theorem nstep_leave (W D J S : Int) (A : Option Addr) (c : Nat) (l : List Int) (f : Fr) (w : World) (h : Rd w A l) (hs : l.length ≤ 500) (hg : goesN W D J S l f = false) :
    Calls Tryz.prog 88 #[cf W D J S, .slice A l.length c, fv f] w (RetS w l f) := by
  obtain ⟨BX, BF, B0, Z, hz⟩ := boxes3 w W D J S f
  have H := Lib.hid (h.below Z); clear h
  have HS := Lib.hid hs; clear hs
  have HG := Lib.hid hg; clear hg
  obtain ⟨o, p, q, v, x, y, s⟩ := f
  go_enter Tryz.func88, Tryz.ntmps88
  go_upto_region 1 with fail
  change Code.wp _ _ _ _ (bx3 w W D J S ⟨o, p, q, v, x, y, s⟩)
  generalize bx3 w W D J S ⟨o, p, q, v, x, y, s⟩ = w0 at BX BF B0 Z hz H ⊢
  go_cut [8] from 10 to 14 (fun t wr => ∃ (g : Nat) (A' : Option Addr) (c' : Nat), t = .pointer (some ⟨g, 0, none⟩) ∧ Hid (Bo wr g W D J S (.slice A' l.length c') ⟨o, p, q, v, x, y, s⟩) ∧ Hid (Rx w0.heap.size g wr A' l) ∧ Hid (Below w0.heap.size w0 wr) ∧ Hid (w0.heap.size ≤ g))
  case first =>
    have HZ := Lib.hid hz
    clear hz
    have HK := Lib.hid (show ∀ x', Below w0.heap.size w0 x' → (fun w' => w'.cell? ⟨w.heap.size, 0, none⟩ = some (.int .i64 W) ∧ w'.cell? ⟨w.heap.size, 1, none⟩ = some (.int .i64 D) ∧ w'.cell? ⟨w.heap.size, 2, none⟩ = some (.int .i64 J) ∧ w'.cell? ⟨w.heap.size, 3, none⟩ = some (.int .i64 S) ∧ w'.cell? ⟨w.heap.size + 1, 0, none⟩ = some (.int .i64 o) ∧ w'.cell? ⟨w.heap.size + 1, 1, none⟩ = some (.int .i64 p) ∧ w'.cell? ⟨w.heap.size + 1, 2, none⟩ = some (.int .i64 q) ∧ w'.cell? ⟨w.heap.size + 1, 3, none⟩ = some (.int .u64 v) ∧ w'.cell? ⟨w.heap.size + 1, 4, none⟩ = some (.int .u64 x) ∧ w'.cell? ⟨w.heap.size + 1, 5, none⟩ = some (.int .u64 y) ∧ w'.cell? ⟨w.heap.size + 1, 6, none⟩ = some (.int .i64 s) ∧ Below w0.heap.size w0 w') x' from fun x' hx => by
      obtain ⟨_, e0, e1, e2, e3⟩ := BX.below hx
      obtain ⟨f0, f1, f2, f3, f4, f5, f6⟩ := (BF.after hx).cells
      exact ⟨e0, e1, e2, e3, f0, f1, f2, f3, f4, f5, f6, hx⟩)
    have hHeld0 := HK.out _ (Below.refl _ _)
    have hn0 : w0.heap.size ≤ w0.heap.size := Nat.le_refl _
    have zr := (Below.refl w0.heap.size w0).drew
    go_region_held3 (fun w' => w'.cell? ⟨w.heap.size, 0, none⟩ = some (.int .i64 W) ∧ w'.cell? ⟨w.heap.size, 1, none⟩ = some (.int .i64 D) ∧ w'.cell? ⟨w.heap.size, 2, none⟩ = some (.int .i64 J) ∧ w'.cell? ⟨w.heap.size, 3, none⟩ = some (.int .i64 S) ∧ w'.cell? ⟨w.heap.size + 1, 0, none⟩ = some (.int .i64 o) ∧ w'.cell? ⟨w.heap.size + 1, 1, none⟩ = some (.int .i64 p) ∧ w'.cell? ⟨w.heap.size + 1, 2, none⟩ = some (.int .i64 q) ∧ w'.cell? ⟨w.heap.size + 1, 3, none⟩ = some (.int .u64 v) ∧ w'.cell? ⟨w.heap.size + 1, 4, none⟩ = some (.int .u64 x) ∧ w'.cell? ⟨w.heap.size + 1, 5, none⟩ = some (.int .u64 y) ∧ w'.cell? ⟨w.heap.size + 1, 6, none⟩ = some (.int .i64 s) ∧ Below w0.heap.size w0 w')
      (first | with_reducible exact hd_drew HK.out (fun _ h => h.2.2.2.2.2.2.2.2.2.2.2) (by assumption) | with_reducible exact hd_alloc HK.out (fun _ h => h.2.2.2.2.2.2.2.2.2.2.2) hn0 _ (by assumption) | with_reducible exact hd_alloc_drew HK.out (fun _ h => h.2.2.2.2.2.2.2.2.2.2.2) hn0 _ (by assumption) | with_reducible exact hd_call HK.out (fun _ h => h.2.2.2.2.2.2.2.2.2.2.2) (by assumption) (by assumption) hn0 | with_reducible exact HK.out _ (z1.alloc z1.size _) | with_reducible exact hd_set12 HK.out (Nat.le_refl _) _ _ _ _ _ _ _ _ _ _ _ _ z1)
      (first
      | (go_at_call 21; (refine (clone_any A l.length c l w0.drew (H.out.below zr) rfl HS.out).mono ?_); rintro _ w1 ⟨A1, c1, rfl, hr1, hb1⟩; have HR1 := Lib.hid hr1; have z1 : Below w0.heap.size w0 w1 := keep_call hb1 zr; clear hr1)
      | (go_at_call 21; (refine (clone_any A l.length c l _ (H.out.below (zr.alloc (Nat.le_refl _) _)) rfl HS.out).mono ?_); rintro _ w1 ⟨A1, c1, rfl, hr1, hb1⟩; have HR1 := Lib.hid hr1; have z1 : Below w0.heap.size w0 w1 := (zr.alloc (Nat.le_refl _) _).trans (hb1.mono (by simp)); have e1 := (Bo.new w0).drew.after hb1; have E1 := Lib.hid e1; obtain ⟨d0, d1, d2, d3, d4, d5, d6, d7, d8, d9, d10, d11⟩ := e1.cells; have fz := e1.free; clear hr1 e1))
    · go_wp2_with fail
      go_meet
      exact ⟨w1.heap.size, A1, c1, rfl, Lib.hid (heap_alloc_new _ _), Lib.hid ((HR1.out.rx (Nat.le_refl _) (.inr (Nat.le_refl _))).after (bel_alloc w1 _)), Lib.hid (z1.alloc z1.size _), Lib.hid z1.size⟩
    · go_wp2_with fail
      go_meet
      change ∃ (g : Nat) (A' : Option Addr) (c' : Nat), Value.pointer (some ⟨w0.heap.size, 0, none⟩) = .pointer (some ⟨g, 0, none⟩) ∧ Hid (Bo (ppo w1 w0.heap.size W D J S (.slice A1 l.length c1) ⟨o, p, q, v, x, y, s⟩) g W D J S (.slice A' l.length c') ⟨o, p, q, v, x, y, s⟩) ∧ Hid (Rx w0.heap.size g (ppo w1 w0.heap.size W D J S (.slice A1 l.length c1) ⟨o, p, q, v, x, y, s⟩) A' l) ∧ Hid (Below w0.heap.size w0 (ppo w1 w0.heap.size W D J S (.slice A1 l.length c1) ⟨o, p, q, v, x, y, s⟩)) ∧ Hid (w0.heap.size ≤ g)
      exact ⟨w0.heap.size, A1, c1, rfl, Lib.hid (E1.out.ppo _ _ _ _ _ _), Lib.hid ((HR1.out.rx (by simp) (.inl (by simp))).ppo _ _ _ _ _ _), Lib.hid (below_ppo z1 (Nat.le_refl _) _ _ _ _ _ _), Lib.hid (Nat.le_refl _)⟩
  case rest =>
    obtain ⟨g, A', c', rfl, HB, HR, HZ, HL⟩ := hcut
    obtain ⟨_, b0, b1, b2, b3⟩ := BX.below HZ.out
    obtain ⟨a0, a1, a2, a3, a4, a5, a6⟩ := (BF.after HZ.out).cells
    go_wp2_with fail
    refine (Tells.of (ngoes_any W D J S A l.length c l ⟨o, p, q, v, x, y, s⟩ _ rfl) (v' := .bool false) (by rw [HG.out])).mono ?_
    rintro _ w3 ⟨rfl, z3⟩
    have HB3 := Lib.hid (HB.out.after z3)
    have HR3 := Lib.hid (HR.out.after z3)
    have z30 := keep_call z3 HZ.out
    have B03 := B0.after z30
    obtain ⟨b0, b1, b2, b3, b4, b5, b6, b7, b8, b9, b10, b11⟩ := HB3.out.cells
    obtain ⟨d0, d1, d2, d3, d4, d5, d6⟩ := B03.cells
    have fz := B03.free
    go_wp2_with fail
    have HZ3 := Lib.hid (Z.trans (z30.mono (by omega)))
    have hl2 : w.heap.size ≤ w.heap.size + 1 + 1 := by omega
    have hh2 : w.heap.size + 1 + 1 < w0.heap.size := by omega
    have HG2 := Lib.hid (show w.heap.size + 1 + 1 < g from Nat.lt_of_lt_of_le hh2 HL.out)
    have hz2 : w.heap.size ≤ w0.heap.size := by omega
    clear hz z3 z30 HZ HL
    go_region
    all_goals
      go_wp2
      change bodyPost _ _ _ _ _ (pf w3 (w.heap.size + 1 + 1) ⟨o, p, q, v, x, y, s⟩).drew
      refine bodyPost_ret (results_fr Tryz.results88 _ rfl ((B03.pf _).drew)) rfl ?_
      exact ⟨A', c', rfl, ((HR3.out.rn.pf hh2 _).drew).mono hz2, (below_pf HZ3.out hl2 _).drew⟩
set_option maxHeartbeats 4000000 in
theorem nstep_deed (W D J S : Int) (A : Option Addr) (c : Nat) (l l' : List Int) (f f' : Fr) (w : World) (h : Rd w A l) (hs : l.length ≤ 500) (hg : goesN W D J S l f = true)
    (C : ∀ (lo g : Nat) (A : Option Addr) (c : Nat) (w : World), Bo w g W D J S (.slice A l.length c) f → Rx lo g w A l → lo ≤ w.heap.size → Calls Tryz.prog 103 #[.pointer (some ⟨g, 0, none⟩)] w (Lo lo w g f' W D J S l')) :
    Calls Tryz.prog 88 #[cf W D J S, .slice A l.length c, fv f] w (RetS w l' f') := by
  obtain ⟨BX, BF, B0, Z, hz⟩ := boxes3 w W D J S f
  have H := Lib.hid (h.below Z); clear h
  have HS := Lib.hid hs; clear hs
  have HG := Lib.hid hg; clear hg
  obtain ⟨o, p, q, v, x, y, s⟩ := f
  have CC := Lib.hid C; clear C
  go_enter Tryz.func88, Tryz.ntmps88
  go_upto_region 1 with fail
  change Code.wp _ _ _ _ (bx3 w W D J S ⟨o, p, q, v, x, y, s⟩)
  generalize bx3 w W D J S ⟨o, p, q, v, x, y, s⟩ = w0 at BX BF B0 Z hz H ⊢
  go_cut [8] from 10 to 14 (fun t wr => ∃ (g : Nat) (A' : Option Addr) (c' : Nat), t = .pointer (some ⟨g, 0, none⟩) ∧ Hid (Bo wr g W D J S (.slice A' l.length c') ⟨o, p, q, v, x, y, s⟩) ∧ Hid (Rx w0.heap.size g wr A' l) ∧ Hid (Below w0.heap.size w0 wr) ∧ Hid (w0.heap.size ≤ g))
  case first =>
    have HZ := Lib.hid hz
    clear hz
    have HK := Lib.hid (show ∀ x', Below w0.heap.size w0 x' → (fun w' => w'.cell? ⟨w.heap.size, 0, none⟩ = some (.int .i64 W) ∧ w'.cell? ⟨w.heap.size, 1, none⟩ = some (.int .i64 D) ∧ w'.cell? ⟨w.heap.size, 2, none⟩ = some (.int .i64 J) ∧ w'.cell? ⟨w.heap.size, 3, none⟩ = some (.int .i64 S) ∧ w'.cell? ⟨w.heap.size + 1, 0, none⟩ = some (.int .i64 o) ∧ w'.cell? ⟨w.heap.size + 1, 1, none⟩ = some (.int .i64 p) ∧ w'.cell? ⟨w.heap.size + 1, 2, none⟩ = some (.int .i64 q) ∧ w'.cell? ⟨w.heap.size + 1, 3, none⟩ = some (.int .u64 v) ∧ w'.cell? ⟨w.heap.size + 1, 4, none⟩ = some (.int .u64 x) ∧ w'.cell? ⟨w.heap.size + 1, 5, none⟩ = some (.int .u64 y) ∧ w'.cell? ⟨w.heap.size + 1, 6, none⟩ = some (.int .i64 s) ∧ Below w0.heap.size w0 w') x' from fun x' hx => by
      obtain ⟨_, e0, e1, e2, e3⟩ := BX.below hx
      obtain ⟨f0, f1, f2, f3, f4, f5, f6⟩ := (BF.after hx).cells
      exact ⟨e0, e1, e2, e3, f0, f1, f2, f3, f4, f5, f6, hx⟩)
    have hHeld0 := HK.out _ (Below.refl _ _)
    have hn0 : w0.heap.size ≤ w0.heap.size := Nat.le_refl _
    have zr := (Below.refl w0.heap.size w0).drew
    go_region_held3 (fun w' => w'.cell? ⟨w.heap.size, 0, none⟩ = some (.int .i64 W) ∧ w'.cell? ⟨w.heap.size, 1, none⟩ = some (.int .i64 D) ∧ w'.cell? ⟨w.heap.size, 2, none⟩ = some (.int .i64 J) ∧ w'.cell? ⟨w.heap.size, 3, none⟩ = some (.int .i64 S) ∧ w'.cell? ⟨w.heap.size + 1, 0, none⟩ = some (.int .i64 o) ∧ w'.cell? ⟨w.heap.size + 1, 1, none⟩ = some (.int .i64 p) ∧ w'.cell? ⟨w.heap.size + 1, 2, none⟩ = some (.int .i64 q) ∧ w'.cell? ⟨w.heap.size + 1, 3, none⟩ = some (.int .u64 v) ∧ w'.cell? ⟨w.heap.size + 1, 4, none⟩ = some (.int .u64 x) ∧ w'.cell? ⟨w.heap.size + 1, 5, none⟩ = some (.int .u64 y) ∧ w'.cell? ⟨w.heap.size + 1, 6, none⟩ = some (.int .i64 s) ∧ Below w0.heap.size w0 w')
      (first | with_reducible exact hd_drew HK.out (fun _ h => h.2.2.2.2.2.2.2.2.2.2.2) (by assumption) | with_reducible exact hd_alloc HK.out (fun _ h => h.2.2.2.2.2.2.2.2.2.2.2) hn0 _ (by assumption) | with_reducible exact hd_alloc_drew HK.out (fun _ h => h.2.2.2.2.2.2.2.2.2.2.2) hn0 _ (by assumption) | with_reducible exact hd_call HK.out (fun _ h => h.2.2.2.2.2.2.2.2.2.2.2) (by assumption) (by assumption) hn0 | with_reducible exact HK.out _ (z1.alloc z1.size _) | with_reducible exact hd_set12 HK.out (Nat.le_refl _) _ _ _ _ _ _ _ _ _ _ _ _ z1)
      (first
      | (go_at_call 21; (refine (clone_any A l.length c l w0.drew (H.out.below zr) rfl HS.out).mono ?_); rintro _ w1 ⟨A1, c1, rfl, hr1, hb1⟩; have HR1 := Lib.hid hr1; have z1 : Below w0.heap.size w0 w1 := keep_call hb1 zr; clear hr1)
      | (go_at_call 21; (refine (clone_any A l.length c l _ (H.out.below (zr.alloc (Nat.le_refl _) _)) rfl HS.out).mono ?_); rintro _ w1 ⟨A1, c1, rfl, hr1, hb1⟩; have HR1 := Lib.hid hr1; have z1 : Below w0.heap.size w0 w1 := (zr.alloc (Nat.le_refl _) _).trans (hb1.mono (by simp)); have e1 := (Bo.new w0).drew.after hb1; have E1 := Lib.hid e1; obtain ⟨d0, d1, d2, d3, d4, d5, d6, d7, d8, d9, d10, d11⟩ := e1.cells; have fz := e1.free; clear hr1 e1))
    · go_wp2_with fail
      go_meet
      exact ⟨w1.heap.size, A1, c1, rfl, Lib.hid (heap_alloc_new _ _), Lib.hid ((HR1.out.rx (Nat.le_refl _) (.inr (Nat.le_refl _))).after (bel_alloc w1 _)), Lib.hid (z1.alloc z1.size _), Lib.hid z1.size⟩
    · go_wp2_with fail
      go_meet
      change ∃ (g : Nat) (A' : Option Addr) (c' : Nat), Value.pointer (some ⟨w0.heap.size, 0, none⟩) = .pointer (some ⟨g, 0, none⟩) ∧ Hid (Bo (ppo w1 w0.heap.size W D J S (.slice A1 l.length c1) ⟨o, p, q, v, x, y, s⟩) g W D J S (.slice A' l.length c') ⟨o, p, q, v, x, y, s⟩) ∧ Hid (Rx w0.heap.size g (ppo w1 w0.heap.size W D J S (.slice A1 l.length c1) ⟨o, p, q, v, x, y, s⟩) A' l) ∧ Hid (Below w0.heap.size w0 (ppo w1 w0.heap.size W D J S (.slice A1 l.length c1) ⟨o, p, q, v, x, y, s⟩)) ∧ Hid (w0.heap.size ≤ g)
      exact ⟨w0.heap.size, A1, c1, rfl, Lib.hid (E1.out.ppo _ _ _ _ _ _), Lib.hid ((HR1.out.rx (by simp) (.inl (by simp))).ppo _ _ _ _ _ _), Lib.hid (below_ppo z1 (Nat.le_refl _) _ _ _ _ _ _), Lib.hid (Nat.le_refl _)⟩
  case rest =>
    obtain ⟨g, A', c', rfl, HB, HR, HZ, HL⟩ := hcut
    obtain ⟨_, b0, b1, b2, b3⟩ := BX.below HZ.out
    obtain ⟨a0, a1, a2, a3, a4, a5, a6⟩ := (BF.after HZ.out).cells
    go_wp2_with fail
    refine (Tells.of (ngoes_any W D J S A l.length c l ⟨o, p, q, v, x, y, s⟩ _ rfl) (v' := .bool true) (by rw [HG.out])).mono ?_
    rintro _ w3 ⟨rfl, z3⟩
    have HB3 := Lib.hid (HB.out.after z3)
    have HR3 := Lib.hid (HR.out.after z3)
    have z30 := keep_call z3 HZ.out
    have B03 := B0.after z30
    clear a0 a1 a2 a3 a4 a5 a6 b0 b1 b2 b3
    have HL2 := HL.out
    have hl2 : w.heap.size ≤ w.heap.size + 1 + 1 := by omega
    have hh2 : w.heap.size + 1 + 1 < w0.heap.size := by omega
    have hz2 : w.heap.size ≤ w0.heap.size := by omega
    have Z4 := Lib.hid z30
    have HB0 := Lib.hid B0
    clear hz z3 z30 B03 B0
    go_wp2_with fail
    refine (CC.out w0.heap.size g A' c' _ HB3.out HR3.out Z4.out.size).mono ?_
    rintro _ w5 ⟨A5, c5, rfl, hb5, hr5, hz5⟩
    have z5 : Below w0.heap.size w0 w5 := Z4.out.trans (hz5.mono HL2)
    have HB5 := Lib.hid hb5
    have HR5 := Lib.hid hr5
    have B03 := HB0.out.after z5
    have HZ5 := Lib.hid (Z.trans (z5.mono hz2))
    obtain ⟨b0, b1, b2, b3, b4, b5, b6, b7, b8, b9, b10, b11⟩ := HB5.out.cells
    obtain ⟨d0, d1, d2, d3, d4, d5, d6⟩ := B03.cells
    have fz := B03.free
    clear hb5 hr5 hz5 z5
    go_wp2_with fail
    go_region
    all_goals
      go_wp2
      change bodyPost _ _ _ _ _ (pf w5 (w.heap.size + 1 + 1) f').drew
      refine bodyPost_ret (results_fr Tryz.results88 _ rfl ((B03.pf _).drew)) rfl ?_
      exact ⟨A5, c5, rfl, ((HR5.out.rn.pf hh2 _).drew).mono hz2, (below_pf HZ5.out hl2 _).drew⟩
theorem nxstep_any (W D J S : Int) (A : Option Addr) (c : Nat) (l : List Int) (f : Fr) (w : World) (h : Rd w A l) (hs : l.length ≤ 500) (hf : UF f) :
    Calls Tryz.prog 88 #[cf W D J S, .slice A l.length c, fv f] w (RetS w (noteS W D J S l f).1 (noteS W D J S l f).2) := by
  cases hg : goesN W D J S l f
  · rw [noteS_stay hg]
    exact nstep_leave W D J S A c l f w h hs hg
  · obtain ⟨hk, hr, ho, h0, h4⟩ := goesN_iff.1 hg
    have hlong := okm_long10 hk
    have hp : f.pc = 0 ∨ f.pc = 1 ∨ f.pc = 2 := by omega
    unfold noteS
    rw [if_pos hg]
    rcases hp with hp | hp | hp
    · rw [if_pos hp]
      exact nstep_deed W D J S A c l l f _ w h hs hg (fun lo g A c w hB hA _ => nstep_0 hB hp (ntload_any lo g f W D J S A c l w hB hA hs))
    · rw [if_neg (by omega), if_pos hp]
      have e5 : isAt l 2 f.x = decide (at0 l 2 = f.x) := isAt_at0 (by omega) (by omega)
      have key : ∀ (lo g : Nat) (A : Option Addr) (c : Nat) (w : World), Bo w g W D J S (.slice A l.length c) f → Rx lo g w A l → lo ≤ w.heap.size → Calls Tryz.prog 121 #[.pointer (some ⟨g, 0, none⟩)] w (Lo lo w g (if isAt l 2 f.x then (if (f.x % 65536 == 0) then ed f 3 0 else { f with pc := 2, y := whN f.op f.x }) else { f with pc := 0 }) W D J S (if isAt l 2 f.x = true then put l 2 (nxN f.op f.x) else l)) := by
        intro lo g A c w hB hA hlo
        rcases ho with ho | ho
        · exact exchange_6 lo g f W D J S (nxN f.op f.x) (whN f.op f.x) _ (isAt l 2 f.x) (f.x % 65536 == 0) _ A c l w hB hA hlo ho hf.2.1 (by rw [ho]) (by rw [ho]) rfl rfl rfl rfl hs
        · exact exchange_7 lo g f W D J S (nxN f.op f.x) (whN f.op f.x) _ (isAt l 2 f.x) (f.x % 65536 == 0) _ A c l w hB hA hlo ho hf.2.1 (by rw [ho]) (by rw [ho]) rfl rfl rfl rfl hs
      by_cases hd : at0 l 2 = f.x
      · rw [if_pos hd]
        refine nstep_deed W D J S A c l _ f _ w h hs hg (fun lo g A c w hB hA hlo => nstep_1 hB hp (Lo.of (key lo g A c w hB hA hlo) ?_ ?_))
        · rw [e5, if_pos (by simpa using hd)]
          by_cases hz : f.x % 65536 = 0
          · rw [if_pos hz, if_pos (by simpa using hz)]
          · rw [if_neg hz, if_neg (by simpa using hz)]
        · rw [e5, if_pos (by simpa using hd)]
      · rw [if_neg hd]
        refine nstep_deed W D J S A c l _ f _ w h hs hg (fun lo g A c w hB hA hlo => nstep_1 hB hp (Lo.of (key lo g A c w hB hA hlo) ?_ ?_))
        · rw [e5, if_neg (by simpa using hd)]
        · rw [e5, if_neg (by simpa using hd)]
    · rw [if_neg (by omega), if_neg (by omega)]
      by_cases h6 : f.op = 6
      · rw [if_pos h6]
        exact nstep_deed W D J S A c l _ f _ w h hs hg (fun lo g A c w hB hA hlo => nstep_2 hB hp (wake_6 lo g f W D J S A c l w hB hA hlo h6 hs))
      · rw [if_neg h6]
        refine nstep_deed W D J S A c l _ f _ w h hs hg (fun lo g A c w hB hA hlo => nstep_2 hB hp (Lo.of (wake_7 lo g f W D J S (rs f.y) (rs f.y == 0) _ A c l w hB hA hlo (by simpa using h6) hf.2.1 hf.2.2 rfl rfl rfl hs) ?_ rfl))
        by_cases hz : rs f.y = 0
        · rw [if_pos (by simpa using hz), if_pos hz]
        · rw [if_neg (by simpa using hz), if_neg hz]
/-- A step, where the cells are as many as before. -/
theorem note_n {W D J S : Int} {A : Option Addr} {n c : Nat} {l : List Int} {f : Fr} {w : World} (h : Rd w A l) (hn : l.length = n) (hs : n ≤ 500) (hf : UF f) {l' : List Int} {f' : Fr} (e : noteS W D J S l f = (l', f')) :
    Calls Tryz.prog 88 #[cf W D J S, .slice A n c, fv f] w fun e w' => ∃ A' c', e = .returned (.tuple #[.slice A' n c', fv f']) ∧ Rn w.heap.size w' A' l' ∧ Below w.heap.size w w' := by
  subst hn
  have h2 := nxstep_any W D J S A c l f w h hs hf
  have hl := noteS_len W D J S l f
  rw [e] at h2 hl
  refine h2.mono ?_
  rintro _ w' ⟨A', c', rfl, h3, h4⟩
  exact ⟨A', c', by rw [show l'.length = l.length from hl], h3, h4⟩
end Go.Proofs.YtlpkccpijloidaaGreat
