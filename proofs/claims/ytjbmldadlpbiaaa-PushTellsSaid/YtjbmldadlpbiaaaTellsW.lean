/- The walk of PushTells. -/
import Derived.Test.YtjbmldadlpbiaaaPuU
import Derived.Test.YtjbmldadlpbiaaaSameR
import Derived.Test.YtjbmldadlpbiaaaFrQ
namespace Go.Proofs.Ytjbmldadlpbiaaa
open Go.RowKit Go.Deep
attribute [local go_sem ↓] eql_fr guard_fr
theorem rlist_L {W D J S x : Int} {A : Option Addr} {n c : Nat} {m : List Int} {w : World} (h : Rd w A m) (hn : m.length = n) (hu : UM m) {o : Option (List Int)} (e : lst W D J S m x = o) {L : List Int} (hL : o.getD [] = L) {k : Nat} (hk : L.length = k) {b : Bool} (hb : o.isSome = b) :
    Calls Try.prog 15 #[cf W D J S, .slice A n c, .int .i64 x] w fun e w' => ∃ A' c', e = .returned (.tuple #[.slice A' k c', .bool b]) ∧ k ≤ c' ∧ Rd w' A' L ∧ Below w.heap.size w w' := by
  subst hL
  subst e hk hb
  exact rlist_any W D J S x A n c m w h hn hu
theorem rsame_eq2 {A B : Option Addr} {n c d : Nat} {l : List Int} {w : World} (ha : Rd w A l) (hb : Rd w B l) (hn : l.length = n) (hs : n ≤ 500) : Tells 12 #[.slice A n c, .slice B n d] w (.bool true) := by
  have h := rsame_eq A B n c d l l w ha hb hn hn (by omega)
  rw [show decide (l = l) = true from decide_eq_true rfl] at h
  exact h
theorem tells_big (W D J S op k : Int) (A : Option Addr) (n c : Nat) (f : Fr) (w : World) (hn : 500 < n) : Tells 3 #[cf W D J S, .slice A n c, fv f, .int .i64 op, .int .i64 k] w (.bool true) := by
  obtain ⟨BX, BF, Z0, hz⟩ := boxes2 w W D J S f
  obtain ⟨o, p, q, v, x, y, s⟩ := f
  have hd : decide ((500 : Int) < (n : Int)) = true := decide_eq_true (by omega)
  go_enter Try.func3, Try.ntmps3
  go_wp2_with fail
  change Calls _ _ _ (bxc w W D J S ⟨o, p, q, v, x, y, s⟩) _
  generalize bxc w W D J S ⟨o, p, q, v, x, y, s⟩ = w0 at BX BF Z0 hz ⊢
  refine (awake_any _).mono ?_
  rintro _ w1 ⟨rfl, z⟩
  have Z := Lib.hid (Z0.trans (z.mono (by omega)))
  clear z
  go_wp2
  go_ret
  exact ⟨rfl, Z.out⟩
set_option maxHeartbeats 1000000 in
theorem tells_main (W D J S op k : Int) (A : Option Addr) (n c : Nat) (m : List Int) (f : Fr) (w : World) (hm : Rd w A m) (hn : m.length = n) (hs : n ≤ 500) (hu : UM m) (hf : UF f) : Tells 3 #[cf W D J S, .slice A n c, fv f, .int .i64 op, .int .i64 k] w (.bool true) := by
  obtain ⟨BX0, BF0, Z0, hz⟩ := boxes2 w W D J S f
  have hlen2 := (pushS_len W D J S m f).trans hn
  have hU2 := (pushS_U (W := W) (D := D) (J := J) (S := S) hu hf).1
  obtain ⟨l', f', hP⟩ : ∃ l' f', pushS W D J S m f = (l', f') := ⟨_, _, rfl⟩
  rw [hP] at hlen2
  simp only at hlen2
  obtain ⟨o, p, q, v, x, y, s⟩ := f
  obtain ⟨b, hb⟩ : ∃ b, goes W D J S m ⟨o, p, q, v, x, y, s⟩ op k = b := ⟨_, rfl⟩
  have hle := lst_len0 (W := W) (D := D) (J := J) (S := S) (x := q) hu
  obtain ⟨ol, ho⟩ : ∃ o, lst W D J S m q = o := ⟨_, rfl⟩
  rw [ho] at hle
  obtain ⟨L, hL⟩ : ∃ L, ol.getD [] = L := ⟨_, rfl⟩
  obtain ⟨B, hB⟩ : ∃ B, ol.isSome = B := ⟨_, rfl⟩
  rw [hL] at hle
  have hd : decide ((500 : Int) < (n : Int)) = false := decide_eq_false (by omega)
  have HP := Lib.hid hP
  have HN := Lib.hid hn
  have HU := Lib.hid hf
  have HUM := Lib.hid hu
  have HS := Lib.hid hs
  have HL2 := Lib.hid hlen2
  have HG := Lib.hid hb
  have HO := Lib.hid ho
  have HL := Lib.hid hL
  have HB := Lib.hid hB
  have HLE := Lib.hid hle
  have LM0 := Lib.hid hm
  clear hP hn hf hu hs hlen2 hb ho hL hB hle hm hU2
  go_enter Try.func3, Try.ntmps3
  go_wp2_with fail
  change Calls _ _ _ (bxc w W D J S ⟨o, p, q, v, x, y, s⟩) _
  generalize bxc w W D J S ⟨o, p, q, v, x, y, s⟩ = w0 at BX0 BF0 Z0 hz ⊢
  refine (awake_any _).mono ?_
  rintro _ w1 ⟨rfl, z⟩
  have Z := Lib.hid (Z0.trans (z.mono (by omega)))
  have BX := Lib.hid (BX0.below z)
  have BF := Lib.hid (BF0.after z)
  have LM := Lib.hid (LM0.out.below Z.out)
  clear z Z0 BX0 BF0 hz LM0
  obtain ⟨gx, x_0, x_1, x_2, x_3⟩ := BX.out
  obtain ⟨a0, a1, a2, a3, a4, a5, a6⟩ := BF.out.cells
  have la := BF.out.lt
  simp only at a0 a1 a2 a3 a4 a5 a6
  go_wp2_with fail
  refine (step_n LM.out HN.out HS.out HU.out HP.out).mono ?_
  rintro _ w2 ⟨A2, c2, rfl, hn2, z⟩
  clear gx x_0 x_1 x_2 x_3 a0 a1 a2 a3 a4 a5 a6 la
  replace Z := Lib.hid (Z.out.trans (z.mono Z.out.size))
  replace BX := Lib.hid (BX.out.below z)
  replace BF := Lib.hid (BF.out.after z)
  replace LM := Lib.hid (LM.out.below z)
  have LA := Lib.hid hn2.rd
  clear hn2 z
  obtain ⟨gx, x_0, x_1, x_2, x_3⟩ := BX.out
  obtain ⟨a0, a1, a2, a3, a4, a5, a6⟩ := BF.out.cells
  have la := BF.out.lt
  simp only at a0 a1 a2 a3 a4 a5 a6
  go_wp2_with fail
  refine (rstep_any W D J S _ _ _ _ _ _ (LM.out.alloc _) HN.out HS.out HU.out HP.out).mono ?_
  rintro _ w3 ⟨A3, c3, rfl, hn3, z⟩
  clear gx x_0 x_1 x_2 x_3 a0 a1 a2 a3 a4 a5 a6 la
  have BG := Lib.hid ((Bf.new w2 f').after z)
  replace z := keep_call z (bel_alloc w2 _)
  replace Z := Lib.hid (Z.out.trans (z.mono Z.out.size))
  replace BX := Lib.hid (BX.out.below z)
  replace BF := Lib.hid (BF.out.after z)
  replace LM := Lib.hid (LM.out.below z)
  replace LA := Lib.hid (LA.out.below z)
  have LB := Lib.hid hn3
  clear hn3 z
  go_wp2_with fail
  refine (rsame_eq2 (l := l') (LA.out.alloc _) (LB.out.alloc _) HL2.out HS.out).mono ?_
  rintro _ w4 ⟨rfl, z⟩
  have BH := Lib.hid ((Bf.new w3 f').after z)
  replace z := keep_call z (bel_alloc w3 _)
  replace Z := Lib.hid (Z.out.trans (z.mono Z.out.size))
  replace BX := Lib.hid (BX.out.below z)
  replace BF := Lib.hid (BF.out.after z)
  replace LM := Lib.hid (LM.out.below z)
  replace LA := Lib.hid (LA.out.below z)
  replace BG := Lib.hid (BG.out.after z)
  replace LB := Lib.hid (LB.out.below z)
  clear z
  obtain ⟨gx, x_0, x_1, x_2, x_3⟩ := BX.out
  obtain ⟨a0, a1, a2, a3, a4, a5, a6⟩ := BF.out.cells
  have la := BF.out.lt
  simp only at a0 a1 a2 a3 a4 a5 a6
  go_wp2_with fail
  refine (Tells.of (rgoes_any W D J S op k A n c m ⟨o, p, q, v, x, y, s⟩ _ HN.out) (v' := .bool b) (by rw [HG.out])).mono ?_
  rintro _ w5 ⟨rfl, z⟩
  clear gx x_0 x_1 x_2 x_3 a0 a1 a2 a3 a4 a5 a6 la
  replace Z := Lib.hid (Z.out.trans (z.mono Z.out.size))
  replace BX := Lib.hid (BX.out.below z)
  replace BF := Lib.hid (BF.out.after z)
  replace LM := Lib.hid (LM.out.below z)
  replace LA := Lib.hid (LA.out.below z)
  replace BG := Lib.hid (BG.out.after z)
  replace LB := Lib.hid (LB.out.below z)
  replace BH := Lib.hid (BH.out.after z)
  clear z
  obtain ⟨gx, x_0, x_1, x_2, x_3⟩ := BX.out
  obtain ⟨a0, a1, a2, a3, a4, a5, a6⟩ := BF.out.cells
  have la := BF.out.lt
  simp only at a0 a1 a2 a3 a4 a5 a6
  go_wp2_with fail
  refine (list_L LM.out HN.out HO.out HL.out rfl HB.out).mono ?_
  rintro _ w6 ⟨A6, c6, rfl, hc6, hr6, z⟩
  clear gx x_0 x_1 x_2 x_3 a0 a1 a2 a3 a4 a5 a6 la
  replace Z := Lib.hid (Z.out.trans (z.mono Z.out.size))
  replace BX := Lib.hid (BX.out.below z)
  replace BF := Lib.hid (BF.out.after z)
  replace LM := Lib.hid (LM.out.below z)
  replace LA := Lib.hid (LA.out.below z)
  replace BG := Lib.hid (BG.out.after z)
  replace LB := Lib.hid (LB.out.below z)
  replace BH := Lib.hid (BH.out.after z)
  have LC := Lib.hid hr6
  clear z hr6 hc6
  obtain ⟨gx, x_0, x_1, x_2, x_3⟩ := BX.out
  obtain ⟨a0, a1, a2, a3, a4, a5, a6⟩ := BF.out.cells
  have la := BF.out.lt
  simp only at a0 a1 a2 a3 a4 a5 a6
  go_wp2_with fail
  refine (rlist_L LM.out HN.out HUM.out HO.out HL.out rfl HB.out).mono ?_
  rintro _ w7 ⟨A7, c7, rfl, hc7, hr7, z⟩
  clear gx x_0 x_1 x_2 x_3 a0 a1 a2 a3 a4 a5 a6 la
  replace Z := Lib.hid (Z.out.trans (z.mono Z.out.size))
  replace BX := Lib.hid (BX.out.below z)
  replace BF := Lib.hid (BF.out.after z)
  replace LM := Lib.hid (LM.out.below z)
  replace LA := Lib.hid (LA.out.below z)
  replace BG := Lib.hid (BG.out.after z)
  replace LB := Lib.hid (LB.out.below z)
  replace BH := Lib.hid (BH.out.after z)
  replace LC := Lib.hid (LC.out.below z)
  have LD := Lib.hid hr7
  clear z hr7 hc7
  go_wp2_with fail
  refine (nums_eq LC.out LD.out rfl (by have := HLE.out; omega)).mono ?_
  rintro _ w8 ⟨rfl, q8, hq⟩
  have z := below_of_drewN hq
  clear hq
  replace Z := Lib.hid (Z.out.trans (z.mono Z.out.size))
  replace BX := Lib.hid (BX.out.below z)
  replace BF := Lib.hid (BF.out.after z)
  replace LM := Lib.hid (LM.out.below z)
  replace LA := Lib.hid (LA.out.below z)
  replace BG := Lib.hid (BG.out.after z)
  replace LB := Lib.hid (LB.out.below z)
  replace BH := Lib.hid (BH.out.after z)
  replace LC := Lib.hid (LC.out.below z)
  replace LD := Lib.hid (LD.out.below z)
  clear z
  obtain ⟨gx, x_0, x_1, x_2, x_3⟩ := BX.out
  obtain ⟨a0, a1, a2, a3, a4, a5, a6⟩ := BF.out.cells
  have la := BF.out.lt
  simp only at a0 a1 a2 a3 a4 a5 a6
  obtain ⟨b0, b1, b2, b3, b4, b5, b6⟩ := BG.out.cells
  have lb := BG.out.lt
  obtain ⟨d0, d1, d2, d3, d4, d5, d6⟩ := BH.out.cells
  have ld := BH.out.lt
  go_wp2_with fail
  refine (Tells.of (goes_any W D J S op k A n c m ⟨o, p, q, v, x, y, s⟩ _ HN.out) (v' := .bool b) (by rw [HG.out])).mono ?_
  rintro _ w9 ⟨rfl, z⟩
  clear gx x_0 x_1 x_2 x_3 a0 a1 a2 a3 a4 a5 a6 la b0 b1 b2 b3 b4 b5 b6 lb d0 d1 d2 d3 d4 d5 d6 ld
  replace Z := Lib.hid (Z.out.trans (z.mono Z.out.size))
  replace BX := Lib.hid (BX.out.below z)
  replace BF := Lib.hid (BF.out.after z)
  replace LM := Lib.hid (LM.out.below z)
  replace LA := Lib.hid (LA.out.below z)
  replace BG := Lib.hid (BG.out.after z)
  replace LB := Lib.hid (LB.out.below z)
  replace BH := Lib.hid (BH.out.after z)
  replace LC := Lib.hid (LC.out.below z)
  replace LD := Lib.hid (LD.out.below z)
  clear z
  go_wp2
  go_ret
  exact ⟨rfl, Z.out⟩
theorem tells_walk (W D J S op k : Int) (A : Option Addr) (n c : Nat) (m : List Int) (f : Fr) (w : World) (hm : Rd w A m) (hn : m.length = n) (hu : UM m) (hf : UF f) : Tells 3 #[cf W D J S, .slice A n c, fv f, .int .i64 op, .int .i64 k] w (.bool true) := by
  by_cases hs : n ≤ 500
  · exact tells_main W D J S op k A n c m f w hm hn hs hu hf
  · exact tells_big W D J S op k A n c f w (by omega)
end Go.Proofs.Ytjbmldadlpbiaaa
