/- The walk of DeqAlone. -/
import Derived.Test.YtelelhjgejnpcaaTaK
import Derived.Test.YtelelhjgejnpcaaFrOn
import Derived.Test.YtelelhjgejnpcaaPuL
namespace Go.Proofs.Ytelelhjgejnpcaa
open Go.RowKit Go.Deep
attribute [local go_sem ↓] eql_fr guard_fr
theorem alone_big (W D J S v : Int) (A : Option Addr) (n c : Nat) (m : List Int) (w : World) (hm : Rd w A m) (hn : m.length = n) (hs : 500 < n) : Tells 4 #[cf W D J S, .slice A n c, .int .u64 v] w (.bool true) := by
  have hd : decide ((500 : Int) < (n : Int)) = true := decide_eq_true (by omega)
  have LM := Lib.hid hm
  have HN := Lib.hid hn
  have HK := Lib.hid (okm_big (W := W) (D := D) (J := J) (S := S) (m := m) (by omega))
  clear hm hn
  go_enter Try.func4, Try.ntmps4
  go_wp2_with fail
  refine (awake_any _).mono ?_
  rintro _ w1 ⟨rfl, z⟩
  have BX := Lib.hid ((Bx.mk w W D J S 23).below z)
  replace z := (box_below w _).trans (z.mono (by simp))
  have Z := Lib.hid z
  replace LM := Lib.hid (LM.out.below z)
  clear z
  obtain ⟨gx, x_0, x_1, x_2, x_3⟩ := BX.out
  go_wp2_with fail
  refine (dlist_none W D J S A n c m _ HK.out HN.out).mono ?_
  rintro _ w2 ⟨A2, c2, rfl, hc2, hr2, z⟩
  clear gx x_0 x_1 x_2 x_3
  replace Z := Lib.hid (Z.out.trans (z.mono Z.out.size))
  replace BX := Lib.hid (BX.out.below z)
  replace LM := Lib.hid (LM.out.below z)
  clear z hr2 hc2
  go_wp2
  go_ret
  exact ⟨rfl, Z.out⟩
theorem alone_none (W D J S v : Int) (A : Option Addr) (n c : Nat) (m : List Int) (w : World) (hm : Rd w A m) (hn : m.length = n) (hs : n ≤ 500) (hu : UM m) (ho : ilst W D J S m = none) : Tells 4 #[cf W D J S, .slice A n c, .int .u64 v] w (.bool true) := by
  have hd : decide ((500 : Int) < (n : Int)) = false := decide_eq_false (by omega)
  have LM := Lib.hid hm
  have HN := Lib.hid hn
  have HS := Lib.hid hs
  have HU := Lib.hid hu
  have HO := Lib.hid ho
  clear hm hn hs hu ho
  go_enter Try.func4, Try.ntmps4
  go_wp2_with fail
  refine (awake_any _).mono ?_
  rintro _ w1 ⟨rfl, z⟩
  have BX := Lib.hid ((Bx.mk w W D J S 23).below z)
  replace z := (box_below w _).trans (z.mono (by simp))
  have Z := Lib.hid z
  replace LM := Lib.hid (LM.out.below z)
  clear z
  obtain ⟨gx, x_0, x_1, x_2, x_3⟩ := BX.out
  go_wp2_with fail
  refine (dlist_L LM.out HN.out HS.out HU.out HO.out (L := []) rfl (k := 0) rfl (B := false) rfl).mono ?_
  rintro _ w2 ⟨A2, c2, rfl, hc2, hr2, z⟩
  clear gx x_0 x_1 x_2 x_3
  replace Z := Lib.hid (Z.out.trans (z.mono Z.out.size))
  replace BX := Lib.hid (BX.out.below z)
  replace LM := Lib.hid (LM.out.below z)
  clear z hr2 hc2
  go_wp2
  go_ret
  exact ⟨rfl, Z.out⟩
theorem alone_head (W D J S v : Int) (A : Option Addr) (n c : Nat) (m : List Int) (w : World) (hm : Rd w A m) (hn : m.length = n) (hs : n ≤ 500) (hu : UM m) (l : List Int) (ho : ilst W D J S m = some l) (h44 : 1152921504606846976 < at0 m 4) : Tells 4 #[cf W D J S, .slice A n c, .int .u64 v] w (.bool true) := by
  have hd : decide ((500 : Int) < (n : Int)) = false := decide_eq_false (by omega)
  obtain ⟨hk, hlj, hl16, hul⟩ := ilst_lim hu ho
  have hlong := okm_long hk
  obtain ⟨hm1, _⟩ := okm_iff.1 hk
  obtain ⟨_, _, hJ, _⟩ := may_lim hm1
  have HL12 := Lib.hid (show 12 ≤ n by omega)
  have h4 : 4 < m.length := by omega
  have h5 : 5 < m.length := by omega
  have LM := Lib.hid hm
  have HN := Lib.hid hn
  have HS := Lib.hid hs
  have HU := Lib.hid hu
  have HO := Lib.hid ho
  have e4 : decide ((1152921504606846976 : Int) < at0 m 4) = true := decide_eq_true h44
  clear hm hn hs hu ho hk hlj hl16 hul hlong hm1 hJ
  go_enter Try.func4, Try.ntmps4
  go_wp2_with fail
  refine (awake_any _).mono ?_
  rintro _ w1 ⟨rfl, z⟩
  have BX := Lib.hid ((Bx.mk w W D J S 23).below z)
  replace z := (box_below w _).trans (z.mono (by simp))
  have Z := Lib.hid z
  replace LM := Lib.hid (LM.out.below z)
  clear z
  obtain ⟨gx, x_0, x_1, x_2, x_3⟩ := BX.out
  go_wp2_with fail
  refine (dlist_L LM.out HN.out HS.out HU.out HO.out (L := l) rfl rfl (B := true) rfl).mono ?_
  rintro _ w2 ⟨A2, c2, rfl, hc2, hr2, z⟩
  clear gx x_0 x_1 x_2 x_3
  replace Z := Lib.hid (Z.out.trans (z.mono Z.out.size))
  replace BX := Lib.hid (BX.out.below z)
  replace LM := Lib.hid (LM.out.below z)
  clear z hr2 hc2
  obtain ⟨ad, hA, al, ac⟩ := LM.out (by have := HL12.out; omega)
  subst hA
  have k4 := ac 4 _ (List.getElem?_eq_getElem h4)
  have k5 := ac 5 _ (List.getElem?_eq_getElem h5)
  have r4 := at0_in (l := m) (i := 4) (by omega) (by omega)
  have r5 := at0_in (l := m) (i := 5) (by omega) (by omega)
  change at0 m 4 = m[4] at r4
  change at0 m 5 = m[5] at r5
  rw [← r4] at k4
  rw [← r5] at k5
  change w2.cell? ⟨ad.block, ad.off + 4, none⟩ = _ at k4
  change w2.cell? ⟨ad.block, ad.off + 5, none⟩ = _ at k5
  have hn6 : ¬ (n : Int) < 6 := by have := HL12.out; omega
  have hn4 : (4 : Int) < (n : Int) := by omega
  have hn5 : (5 : Int) < (n : Int) := by omega
  clear ac al r4 r5
  go_wp2
  go_ret
  exact ⟨rfl, Z.out⟩
theorem alone_tail (W D J S v : Int) (A : Option Addr) (n c : Nat) (m : List Int) (w : World) (hm : Rd w A m) (hn : m.length = n) (hs : n ≤ 500) (hu : UM m) (l : List Int) (ho : ilst W D J S m = some l) (h44 : ¬ 1152921504606846976 < at0 m 4) (h55 : 1152921504606846976 < at0 m 5) : Tells 4 #[cf W D J S, .slice A n c, .int .u64 v] w (.bool true) := by
  have hd : decide ((500 : Int) < (n : Int)) = false := decide_eq_false (by omega)
  obtain ⟨hk, hlj, hl16, hul⟩ := ilst_lim hu ho
  have hlong := okm_long hk
  obtain ⟨hm1, _⟩ := okm_iff.1 hk
  obtain ⟨_, _, hJ, _⟩ := may_lim hm1
  have HL12 := Lib.hid (show 12 ≤ n by omega)
  have h4 : 4 < m.length := by omega
  have h5 : 5 < m.length := by omega
  have LM := Lib.hid hm
  have HN := Lib.hid hn
  have HS := Lib.hid hs
  have HU := Lib.hid hu
  have HO := Lib.hid ho
  have e4 : decide ((1152921504606846976 : Int) < at0 m 4) = false := decide_eq_false h44
  have e5 : decide ((1152921504606846976 : Int) < at0 m 5) = true := decide_eq_true h55
  clear hm hn hs hu ho hk hlj hl16 hul hlong hm1 hJ
  go_enter Try.func4, Try.ntmps4
  go_wp2_with fail
  refine (awake_any _).mono ?_
  rintro _ w1 ⟨rfl, z⟩
  have BX := Lib.hid ((Bx.mk w W D J S 23).below z)
  replace z := (box_below w _).trans (z.mono (by simp))
  have Z := Lib.hid z
  replace LM := Lib.hid (LM.out.below z)
  clear z
  obtain ⟨gx, x_0, x_1, x_2, x_3⟩ := BX.out
  go_wp2_with fail
  refine (dlist_L LM.out HN.out HS.out HU.out HO.out (L := l) rfl rfl (B := true) rfl).mono ?_
  rintro _ w2 ⟨A2, c2, rfl, hc2, hr2, z⟩
  clear gx x_0 x_1 x_2 x_3
  replace Z := Lib.hid (Z.out.trans (z.mono Z.out.size))
  replace BX := Lib.hid (BX.out.below z)
  replace LM := Lib.hid (LM.out.below z)
  clear z hr2 hc2
  obtain ⟨ad, hA, al, ac⟩ := LM.out (by have := HL12.out; omega)
  subst hA
  have k4 := ac 4 _ (List.getElem?_eq_getElem h4)
  have k5 := ac 5 _ (List.getElem?_eq_getElem h5)
  have r4 := at0_in (l := m) (i := 4) (by omega) (by omega)
  have r5 := at0_in (l := m) (i := 5) (by omega) (by omega)
  change at0 m 4 = m[4] at r4
  change at0 m 5 = m[5] at r5
  rw [← r4] at k4
  rw [← r5] at k5
  change w2.cell? ⟨ad.block, ad.off + 4, none⟩ = _ at k4
  change w2.cell? ⟨ad.block, ad.off + 5, none⟩ = _ at k5
  have hn6 : ¬ (n : Int) < 6 := by have := HL12.out; omega
  have hn4 : (4 : Int) < (n : Int) := by omega
  have hn5 : (5 : Int) < (n : Int) := by omega
  clear ac al r4 r5
  go_wp2
  go_ret
  exact ⟨rfl, Z.out⟩
set_option maxRecDepth 100000 in
set_option maxHeartbeats 2000000 in
theorem alone_main (W D J S v : Int) (A : Option Addr) (n c : Nat) (m : List Int) (w : World) (hm : Rd w A m) (hn : m.length = n) (hs : n ≤ 500) (hu : UM m) (hv : U v) (l : List Int) (ho : ilst W D J S m = some l) (h44 : ¬ 1152921504606846976 < at0 m 4) (h55 : ¬ 1152921504606846976 < at0 m 5) : Tells 4 #[cf W D J S, .slice A n c, .int .u64 v] w (.bool true) := by
  have hd : decide ((500 : Int) < (n : Int)) = false := decide_eq_false (by omega)
  obtain ⟨hk, hlj, hl16, hul⟩ := ilst_lim hu ho
  have hlong := okm_long hk
  obtain ⟨hm1, _⟩ := okm_iff.1 hk
  obtain ⟨_, _, hJ, _⟩ := may_lim hm1
  have HL12 := Lib.hid (show 12 ≤ n by omega)
  have h4 : 4 < m.length := by omega
  have h5 : 5 < m.length := by omega
  have LM := Lib.hid hm
  have HN := Lib.hid hn
  have HS := Lib.hid hs
  have HU := Lib.hid hu
  have HO := Lib.hid ho
  have e4 : decide ((1152921504606846976 : Int) < at0 m 4) = false := decide_eq_false h44
  have e5 : decide ((1152921504606846976 : Int) < at0 m 5) = false := decide_eq_false h55
  obtain ⟨_, hvi⟩ := ilst_some hu (by omega) (by omega) ho
  have hu4 := at0_U hu 4
  obtain ⟨mE, eE, hkE, hvE⟩ := enq_alone (w := 0) (v := v) hk hvi
  obtain ⟨mO, hO, eO, hkO, hvO, _⟩ := out_alone (w := 0) (v := 0) hk hvi (by omega)
  obtain ⟨lE, fE, oE⟩ : ∃ lE fE, on l J (fbg 3 0 v) = (lE, fE) := ⟨_, _, rfl⟩
  obtain ⟨lO, fO, oO⟩ : ∃ lO fO, on l J (fbg 4 0 0) = (lO, fO) := ⟨_, _, rfl⟩
  rw [oE] at eE hvE
  rw [oO] at eO hvO
  simp only at eE hvE eO hvO
  have iE := (ilst_of hkE hvE).1
  have iO := (ilst_of hkO hvO).1
  have lenE := hvE.len
  have lenO := hvO.len
  have uE : UM mE := by have h := (enqN_U (W := W) (D := D) (J := J) (S := S) (s := (m, fbg 3 0 v)) hu ⟨hv, U0, U0⟩ 9).1; rw [eE] at h; exact h
  have uO : UM mO := by have h := (outN_U (W := W) (D := D) (J := J) (S := S) (s := (m, fbg 4 0 0)) hu ⟨U0, U0, U0⟩ 9).1; rw [eO] at h; exact h
  have nE : mE.length = n := by have h := enqN_len W D J S 9 (m, fbg 3 0 v); rw [eE] at h; exact h.trans hn
  have nO : mO.length = n := by have h := outN_len W D J S 9 (m, fbg 4 0 0); rw [eO] at h; exact h.trans hn
  have EE := Lib.hid eE
  have EO := Lib.hid eO
  have OE := Lib.hid oE
  have OO := Lib.hid oO
  have IE := Lib.hid iE
  have IO := Lib.hid iO
  have UE := Lib.hid uE
  have UO := Lib.hid uO
  have NE := Lib.hid nE
  have NO := Lib.hid nO
  have LE := Lib.hid (show lE.length ≤ 16 by omega)
  have LO := Lib.hid (show lO.length ≤ 16 by omega)
  have L16 := Lib.hid hl16
  have HV := Lib.hid hv
  clear hm hn hs hu ho hk hlj hl16 hul hlong hm1 hJ hvi hu4 eE eO oE oO iE iO uE uO nE nO lenE lenO hvE hvO hkE hkO hv
  go_enter Try.func4, Try.ntmps4
  go_wp2_with fail
  refine (awake_any _).mono ?_
  rintro _ w1 ⟨rfl, z⟩
  have BX := Lib.hid ((Bx.mk w W D J S 23).below z)
  replace z := (box_below w _).trans (z.mono (by simp))
  have Z := Lib.hid z
  replace LM := Lib.hid (LM.out.below z)
  clear z
  obtain ⟨gx, x_0, x_1, x_2, x_3⟩ := BX.out
  go_wp2_with fail
  refine (dlist_L LM.out HN.out HS.out HU.out HO.out (L := l) rfl rfl (B := true) rfl).mono ?_
  rintro _ w2 ⟨A2, c2, rfl, hc2, hr2, z⟩
  clear gx x_0 x_1 x_2 x_3
  replace Z := Lib.hid (Z.out.trans (z.mono Z.out.size))
  replace BX := Lib.hid (BX.out.below z)
  replace LM := Lib.hid (LM.out.below z)
  have LL := Lib.hid hr2
  have HC := Lib.hid hc2
  clear z hr2 hc2
  obtain ⟨ad, hA, al, ac⟩ := LM.out (by have := HL12.out; omega)
  subst hA
  have k4 := ac 4 _ (List.getElem?_eq_getElem h4)
  have k5 := ac 5 _ (List.getElem?_eq_getElem h5)
  have r4 := at0_in (l := m) (i := 4) (by omega) (by omega)
  have r5 := at0_in (l := m) (i := 5) (by omega) (by omega)
  change at0 m 4 = m[4] at r4
  change at0 m 5 = m[5] at r5
  rw [← r4] at k4
  rw [← r5] at k5
  change w2.cell? ⟨ad.block, ad.off + 4, none⟩ = _ at k4
  change w2.cell? ⟨ad.block, ad.off + 5, none⟩ = _ at k5
  have hn6 : ¬ (n : Int) < 6 := by have := HL12.out; omega
  have hn4 : (4 : Int) < (n : Int) := by omega
  have hn5 : (5 : Int) < (n : Int) := by omega
  clear ac al r4 r5
  go_wp2_with fail
  refine (begin_any 3 0 v _).mono ?_
  rintro _ w3 ⟨rfl, z⟩
  replace Z := Lib.hid (Z.out.trans (z.mono Z.out.size))
  replace BX := Lib.hid (BX.out.below z)
  replace LM := Lib.hid (LM.out.below z)
  replace LL := Lib.hid (LL.out.below z)
  clear z
  clear k4 k5 hn6 hn4 hn5 hd e4 e5 h4 h5 h44 h55
  obtain ⟨gx, x_0, x_1, x_2, x_3⟩ := BX.out
  go_wp2_with fail
  refine (once_at (n := l.length) lE fE OE.out (LL.out.alloc _) rfl HC.out (by have := L16.out; omega)).mono ?_
  rintro _ w4 ⟨A4, c4, rfl, hc4, hn4, z⟩
  clear gx x_0 x_1 x_2 x_3
  have BG := Lib.hid ((Bf.new w3 (fbg 3 0 v)).after z)
  replace z := keep_call z (bel_alloc w3 _)
  replace Z := Lib.hid (Z.out.trans (z.mono Z.out.size))
  replace BX := Lib.hid (BX.out.below z)
  replace LM := Lib.hid (LM.out.below z)
  replace LL := Lib.hid (LL.out.below z)
  have LBG := Lib.hid hn4.rd
  clear z hc4 hn4
  obtain ⟨gx, x_0, x_1, x_2, x_3⟩ := BX.out
  obtain ⟨a0, a1, a2, a3, a4, a5, a6⟩ := BG.out.cells
  have la := BG.out.lt
  simp only [fbg] at a0 a1 a2 a3 a4 a5 a6
  go_wp2_with fail
  refine (one_enq (LM.out.alloc _) HN.out HS.out HU.out ⟨HV.out, U0, U0⟩ rfl EE.out).mono ?_
  rintro _ w5 ⟨A5, c5, rfl, hn5, z⟩
  clear gx x_0 x_1 x_2 x_3 a0 a1 a2 a3 a4 a5 a6 la
  have BH := Lib.hid ((Bf.new w4 fE).after z)
  replace z := keep_call z (bel_alloc w4 _)
  replace Z := Lib.hid (Z.out.trans (z.mono Z.out.size))
  replace BX := Lib.hid (BX.out.below z)
  replace LM := Lib.hid (LM.out.below z)
  replace LL := Lib.hid (LL.out.below z)
  replace BG := Lib.hid (BG.out.after z)
  replace LBG := Lib.hid (LBG.out.below z)
  have MBG := Lib.hid hn5.rd
  clear z hn5
  obtain ⟨gx, x_0, x_1, x_2, x_3⟩ := BX.out
  go_wp2_with fail
  refine (dlist_L (MBG.out.alloc _) NE.out HS.out UE.out IE.out (L := lE) rfl rfl (B := true) rfl).mono ?_
  rintro _ w6 ⟨A6, c6, rfl, hc6, hr6, z⟩
  clear gx x_0 x_1 x_2 x_3
  have BK := Lib.hid ((Bf.new w5 fE).after z)
  replace z := keep_call z (bel_alloc w5 _)
  replace Z := Lib.hid (Z.out.trans (z.mono Z.out.size))
  replace BX := Lib.hid (BX.out.below z)
  replace LM := Lib.hid (LM.out.below z)
  replace LL := Lib.hid (LL.out.below z)
  replace BG := Lib.hid (BG.out.after z)
  replace LBG := Lib.hid (LBG.out.below z)
  replace BH := Lib.hid (BH.out.after z)
  replace MBG := Lib.hid (MBG.out.below z)
  have QBG := Lib.hid hr6
  clear z hr6 hc6
  go_wp2_with fail
  refine (nums_eq QBG.out LBG.out rfl (by have := LE.out; omega)).mono ?_
  rintro _ w7 ⟨rfl, q7, hq⟩
  have z := below_of_drewN hq
  clear hq
  replace Z := Lib.hid (Z.out.trans (z.mono Z.out.size))
  replace BX := Lib.hid (BX.out.below z)
  replace LM := Lib.hid (LM.out.below z)
  replace LL := Lib.hid (LL.out.below z)
  replace BG := Lib.hid (BG.out.after z)
  replace LBG := Lib.hid (LBG.out.below z)
  replace BH := Lib.hid (BH.out.after z)
  replace MBG := Lib.hid (MBG.out.below z)
  replace BK := Lib.hid (BK.out.after z)
  replace QBG := Lib.hid (QBG.out.below z)
  clear z
  go_wp2_with fail
  refine (begin_any 4 0 0 _).mono ?_
  rintro _ w8 ⟨rfl, z⟩
  replace Z := Lib.hid (Z.out.trans (z.mono Z.out.size))
  replace BX := Lib.hid (BX.out.below z)
  replace LM := Lib.hid (LM.out.below z)
  replace LL := Lib.hid (LL.out.below z)
  replace BG := Lib.hid (BG.out.after z)
  replace LBG := Lib.hid (LBG.out.below z)
  replace BH := Lib.hid (BH.out.after z)
  replace MBG := Lib.hid (MBG.out.below z)
  replace BK := Lib.hid (BK.out.after z)
  replace QBG := Lib.hid (QBG.out.below z)
  clear z
  obtain ⟨gx, x_0, x_1, x_2, x_3⟩ := BX.out
  go_wp2_with fail
  refine (once_at (n := l.length) lO fO OO.out (LL.out.alloc _) rfl HC.out (by have := L16.out; omega)).mono ?_
  rintro _ w9 ⟨A9, c9, rfl, hc9, hn9, z⟩
  clear gx x_0 x_1 x_2 x_3
  have CG := Lib.hid ((Bf.new w8 (fbg 4 0 0)).after z)
  replace z := keep_call z (bel_alloc w8 _)
  replace Z := Lib.hid (Z.out.trans (z.mono Z.out.size))
  replace BX := Lib.hid (BX.out.below z)
  replace LM := Lib.hid (LM.out.below z)
  replace LL := Lib.hid (LL.out.below z)
  replace BG := Lib.hid (BG.out.after z)
  replace LBG := Lib.hid (LBG.out.below z)
  replace BH := Lib.hid (BH.out.after z)
  replace MBG := Lib.hid (MBG.out.below z)
  replace BK := Lib.hid (BK.out.after z)
  replace QBG := Lib.hid (QBG.out.below z)
  have LCG := Lib.hid hn9.rd
  clear z hc9 hn9
  obtain ⟨gx, x_0, x_1, x_2, x_3⟩ := BX.out
  obtain ⟨a0, a1, a2, a3, a4, a5, a6⟩ := CG.out.cells
  have la := CG.out.lt
  simp only [fbg] at a0 a1 a2 a3 a4 a5 a6
  go_wp2_with fail
  refine (one_out (LM.out.alloc _) HN.out HS.out HU.out ⟨U0, U0, U0⟩ rfl EO.out).mono ?_
  rintro _ w10 ⟨A10, c10, rfl, hn10, z⟩
  clear gx x_0 x_1 x_2 x_3 a0 a1 a2 a3 a4 a5 a6 la
  have CH := Lib.hid ((Bf.new w9 fO).after z)
  replace z := keep_call z (bel_alloc w9 _)
  replace Z := Lib.hid (Z.out.trans (z.mono Z.out.size))
  replace BX := Lib.hid (BX.out.below z)
  replace LM := Lib.hid (LM.out.below z)
  replace LL := Lib.hid (LL.out.below z)
  replace BG := Lib.hid (BG.out.after z)
  replace LBG := Lib.hid (LBG.out.below z)
  replace BH := Lib.hid (BH.out.after z)
  replace MBG := Lib.hid (MBG.out.below z)
  replace BK := Lib.hid (BK.out.after z)
  replace QBG := Lib.hid (QBG.out.below z)
  replace CG := Lib.hid (CG.out.after z)
  replace LCG := Lib.hid (LCG.out.below z)
  have MCG := Lib.hid hn10.rd
  clear z hn10
  obtain ⟨gx, x_0, x_1, x_2, x_3⟩ := BX.out
  go_wp2_with fail
  refine (dlist_L (MCG.out.alloc _) NO.out HS.out UO.out IO.out (L := lO) rfl rfl (B := true) rfl).mono ?_
  rintro _ w11 ⟨A11, c11, rfl, hc11, hr11, z⟩
  clear gx x_0 x_1 x_2 x_3
  have CK := Lib.hid ((Bf.new w10 fO).after z)
  replace z := keep_call z (bel_alloc w10 _)
  replace Z := Lib.hid (Z.out.trans (z.mono Z.out.size))
  replace BX := Lib.hid (BX.out.below z)
  replace LM := Lib.hid (LM.out.below z)
  replace LL := Lib.hid (LL.out.below z)
  replace BG := Lib.hid (BG.out.after z)
  replace LBG := Lib.hid (LBG.out.below z)
  replace BH := Lib.hid (BH.out.after z)
  replace MBG := Lib.hid (MBG.out.below z)
  replace BK := Lib.hid (BK.out.after z)
  replace QBG := Lib.hid (QBG.out.below z)
  replace CG := Lib.hid (CG.out.after z)
  replace LCG := Lib.hid (LCG.out.below z)
  replace CH := Lib.hid (CH.out.after z)
  replace MCG := Lib.hid (MCG.out.below z)
  have QCG := Lib.hid hr11
  clear z hr11 hc11
  go_wp2_with fail
  refine (nums_eq QCG.out LCG.out rfl (by have := LO.out; omega)).mono ?_
  rintro _ w12 ⟨rfl, q12, hq⟩
  have z := below_of_drewN hq
  clear hq
  replace Z := Lib.hid (Z.out.trans (z.mono Z.out.size))
  replace BX := Lib.hid (BX.out.below z)
  replace LM := Lib.hid (LM.out.below z)
  replace LL := Lib.hid (LL.out.below z)
  replace BG := Lib.hid (BG.out.after z)
  replace LBG := Lib.hid (LBG.out.below z)
  replace BH := Lib.hid (BH.out.after z)
  replace MBG := Lib.hid (MBG.out.below z)
  replace BK := Lib.hid (BK.out.after z)
  replace QBG := Lib.hid (QBG.out.below z)
  replace CG := Lib.hid (CG.out.after z)
  replace LCG := Lib.hid (LCG.out.below z)
  replace CH := Lib.hid (CH.out.after z)
  replace MCG := Lib.hid (MCG.out.below z)
  replace CK := Lib.hid (CK.out.after z)
  replace QCG := Lib.hid (QCG.out.below z)
  clear z
  obtain ⟨a0, a1, a2, a3, a4, a5, a6⟩ := BH.out.cells
  have la := BH.out.lt
  obtain ⟨b0, b1, b2, b3, b4, b5, b6⟩ := BK.out.cells
  have lb := BK.out.lt
  obtain ⟨d0, d1, d2, d3, d4, d5, d6⟩ := CH.out.cells
  have ld := CH.out.lt
  obtain ⟨e0, e1, e2, e3, e4, e5, e6⟩ := CK.out.cells
  have le := CK.out.lt
  go_wp2
  go_ret
  exact ⟨rfl, Z.out⟩
theorem alone_walk (W D J S v : Int) (A : Option Addr) (n c : Nat) (m : List Int) (w : World) (hm : Rd w A m) (hn : m.length = n) (hu : UM m) (hv : U v) : Tells 4 #[cf W D J S, .slice A n c, .int .u64 v] w (.bool true) := by
  by_cases hs : n ≤ 500
  · cases ho : ilst W D J S m with
    | none => exact alone_none W D J S v A n c m w hm hn hs hu ho
    | some l =>
      by_cases h44 : 1152921504606846976 < at0 m 4
      · exact alone_head W D J S v A n c m w hm hn hs hu l ho h44
      · by_cases h55 : 1152921504606846976 < at0 m 5
        · exact alone_tail W D J S v A n c m w hm hn hs hu l ho h44 h55
        · exact alone_main W D J S v A n c m w hm hn hs hu hv l ho h44 h55
  · exact alone_big W D J S v A n c m w hm hn (by omega)
end Go.Proofs.Ytelelhjgejnpcaa
