/- The walk of DeqTwo. -/
import Derived.Test.YtelelhjgejnpcaaDuL
import Derived.Deep.RegionHeld3
import Derived.Deep.QuietTactic
import Derived.BigQuiet
namespace Go.Proofs.Ytelelhjgejnpcaa
open Go.RowKit Go.Deep
attribute [local go_sem ↓] eql_fr guard_fr
theorem two_big (W D J S : Int) (A : Option Addr) (n c : Nat) (m : List Int) (w : World) (hm : Rd w A m) (hn : m.length = n) (hs : 500 < n) : Tells 7 #[cf W D J S, .slice A n c] w (.bool true) := by
  have hd : decide ((500 : Int) < (n : Int)) = true := decide_eq_true (by omega)
  have LM := Lib.hid hm
  have HN := Lib.hid hn
  have HK := Lib.hid (okm_big (W := W) (D := D) (J := J) (S := S) (m := m) (by omega))
  clear hm hn
  go_enter Try.func7, Try.ntmps7
  go_wp2_with fail
  refine (awake_any _).mono ?_
  rintro _ w1 ⟨rfl, z⟩
  have BX := Lib.hid ((Bx.mk w W D J S 23).below z)
  replace z := (box_below w _).trans (z.mono (by simp))
  have Z := Lib.hid z
  replace LM := Lib.hid (LM.out.below z)
  clear z
  obtain ⟨gx, x_0, x_1, x_2, x_3⟩ := BX.out
  go_wp2_with fail
  refine (dlist_none W D J S A n c m _ HK.out HN.out).mono ?_
  rintro _ w2 ⟨A2, c2, rfl, hc2, hr2, z⟩
  clear gx x_0 x_1 x_2 x_3
  replace Z := Lib.hid (Z.out.trans (z.mono Z.out.size))
  replace BX := Lib.hid (BX.out.below z)
  replace LM := Lib.hid (LM.out.below z)
  clear z hr2 hc2
  go_wp2
  go_ret
  exact ⟨rfl, Z.out⟩
theorem two_none (W D J S : Int) (A : Option Addr) (n c : Nat) (m : List Int) (w : World) (hm : Rd w A m) (hn : m.length = n) (hs : n ≤ 500) (hu : UM m) (ho : ilst W D J S m = none) : Tells 7 #[cf W D J S, .slice A n c] w (.bool true) := by
  have hd : decide ((500 : Int) < (n : Int)) = false := decide_eq_false (by omega)
  have LM := Lib.hid hm
  have HN := Lib.hid hn
  have HS := Lib.hid hs
  have HU := Lib.hid hu
  have HO := Lib.hid ho
  clear hm hn hs hu ho
  go_enter Try.func7, Try.ntmps7
  go_wp2_with fail
  refine (awake_any _).mono ?_
  rintro _ w1 ⟨rfl, z⟩
  have BX := Lib.hid ((Bx.mk w W D J S 23).below z)
  replace z := (box_below w _).trans (z.mono (by simp))
  have Z := Lib.hid z
  replace LM := Lib.hid (LM.out.below z)
  clear z
  obtain ⟨gx, x_0, x_1, x_2, x_3⟩ := BX.out
  go_wp2_with fail
  refine (dlist_L LM.out HN.out HS.out HU.out HO.out (L := []) rfl (k := 0) rfl (B := false) rfl).mono ?_
  rintro _ w2 ⟨A2, c2, rfl, hc2, hr2, z⟩
  clear gx x_0 x_1 x_2 x_3
  replace Z := Lib.hid (Z.out.trans (z.mono Z.out.size))
  replace BX := Lib.hid (BX.out.below z)
  replace LM := Lib.hid (LM.out.below z)
  clear z hr2 hc2
  go_wp2
  go_ret
  exact ⟨rfl, Z.out⟩
theorem two_tail (W D J S : Int) (A : Option Addr) (n c : Nat) (m : List Int) (w : World) (hm : Rd w A m) (hn : m.length = n) (hs : n ≤ 500) (hu : UM m) (l : List Int) (ho : ilst W D J S m = some l) (h55 : 1152921504606846976 < at0 m 5) : Tells 7 #[cf W D J S, .slice A n c] w (.bool true) := by
  have hd : decide ((500 : Int) < (n : Int)) = false := decide_eq_false (by omega)
  obtain ⟨hk, hlj, hl16, hul⟩ := ilst_lim hu ho
  have hlong := okm_long hk
  obtain ⟨hm1, _⟩ := okm_iff.1 hk
  obtain ⟨_, _, hJ, _⟩ := may_lim hm1
  have HL12 := Lib.hid (show 12 ≤ n by omega)
  have h4 : 4 < m.length := by omega
  have h5 : 5 < m.length := by omega
  have LM := Lib.hid hm
  have HN := Lib.hid hn
  have HS := Lib.hid hs
  have HU0 := Lib.hid hu
  have HO := Lib.hid ho
  have e5 : decide ((1152921504606846976 : Int) < at0 m 5) = true := decide_eq_true h55
  clear hm hn hs hu ho hk hlj hl16 hul hlong hm1 hJ
  go_enter Try.func7, Try.ntmps7
  go_wp2_with fail
  refine (awake_any _).mono ?_
  rintro _ w1 ⟨rfl, z⟩
  have BX := Lib.hid ((Bx.mk w W D J S 23).below z)
  replace z := (box_below w _).trans (z.mono (by simp))
  have Z := Lib.hid z
  replace LM := Lib.hid (LM.out.below z)
  clear z
  obtain ⟨gx, x_0, x_1, x_2, x_3⟩ := BX.out
  go_wp2_with fail
  refine (dlist_L LM.out HN.out HS.out HU0.out HO.out (L := l) rfl rfl (B := true) rfl).mono ?_
  rintro _ w2 ⟨A2, c2, rfl, hc2, hr2, z⟩
  clear gx x_0 x_1 x_2 x_3
  replace Z := Lib.hid (Z.out.trans (z.mono Z.out.size))
  replace BX := Lib.hid (BX.out.below z)
  replace LM := Lib.hid (LM.out.below z)
  clear z hr2 hc2
  obtain ⟨ad, hA, al, ac⟩ := LM.out (by have := HL12.out; omega)
  subst hA
  have k4 := ac 4 _ (List.getElem?_eq_getElem h4)
  have k5 := ac 5 _ (List.getElem?_eq_getElem h5)
  have r4 := at0_in (l := m) (i := 4) (by omega) (by omega)
  have r5 := at0_in (l := m) (i := 5) (by omega) (by omega)
  change at0 m 4 = m[4] at r4
  change at0 m 5 = m[5] at r5
  rw [← r4] at k4
  rw [← r5] at k5
  change w2.cell? ⟨ad.block, ad.off + 4, none⟩ = _ at k4
  change w2.cell? ⟨ad.block, ad.off + 5, none⟩ = _ at k5
  have hn6 : ¬ (n : Int) < 6 := by have := HL12.out; omega
  have hn4 : (4 : Int) < (n : Int) := by omega
  have hn5 : (5 : Int) < (n : Int) := by omega
  clear ac al r4 r5
  go_wp2
  go_ret
  exact ⟨rfl, Z.out⟩
theorem two_head (W D J S : Int) (A : Option Addr) (n c : Nat) (m : List Int) (w : World) (hm : Rd w A m) (hn : m.length = n) (hs : n ≤ 500) (hu : UM m) (l : List Int) (ho : ilst W D J S m = some l) (h55 : ¬ 1152921504606846976 < at0 m 5) (h44 : 1152921504606846976 < at0 m 4) : Tells 7 #[cf W D J S, .slice A n c] w (.bool true) := by
  have hd : decide ((500 : Int) < (n : Int)) = false := decide_eq_false (by omega)
  obtain ⟨hk, hlj, hl16, hul⟩ := ilst_lim hu ho
  have hlong := okm_long hk
  obtain ⟨hm1, _⟩ := okm_iff.1 hk
  obtain ⟨_, _, hJ, _⟩ := may_lim hm1
  have HL12 := Lib.hid (show 12 ≤ n by omega)
  have h4 : 4 < m.length := by omega
  have h5 : 5 < m.length := by omega
  have LM := Lib.hid hm
  have HN := Lib.hid hn
  have HS := Lib.hid hs
  have HU0 := Lib.hid hu
  have HO := Lib.hid ho
  have e5 : decide ((1152921504606846976 : Int) < at0 m 5) = false := decide_eq_false h55
  have e4 : decide ((1152921504606846976 : Int) < at0 m 4) = true := decide_eq_true h44
  clear hm hn hs hu ho hk hlj hl16 hul hlong hm1 hJ
  go_enter Try.func7, Try.ntmps7
  go_wp2_with fail
  refine (awake_any _).mono ?_
  rintro _ w1 ⟨rfl, z⟩
  have BX := Lib.hid ((Bx.mk w W D J S 23).below z)
  replace z := (box_below w _).trans (z.mono (by simp))
  have Z := Lib.hid z
  replace LM := Lib.hid (LM.out.below z)
  clear z
  obtain ⟨gx, x_0, x_1, x_2, x_3⟩ := BX.out
  go_wp2_with fail
  refine (dlist_L LM.out HN.out HS.out HU0.out HO.out (L := l) rfl rfl (B := true) rfl).mono ?_
  rintro _ w2 ⟨A2, c2, rfl, hc2, hr2, z⟩
  clear gx x_0 x_1 x_2 x_3
  replace Z := Lib.hid (Z.out.trans (z.mono Z.out.size))
  replace BX := Lib.hid (BX.out.below z)
  replace LM := Lib.hid (LM.out.below z)
  clear z hr2 hc2
  obtain ⟨ad, hA, al, ac⟩ := LM.out (by have := HL12.out; omega)
  subst hA
  have k4 := ac 4 _ (List.getElem?_eq_getElem h4)
  have k5 := ac 5 _ (List.getElem?_eq_getElem h5)
  have r4 := at0_in (l := m) (i := 4) (by omega) (by omega)
  have r5 := at0_in (l := m) (i := 5) (by omega) (by omega)
  change at0 m 4 = m[4] at r4
  change at0 m 5 = m[5] at r5
  rw [← r4] at k4
  rw [← r5] at k5
  change w2.cell? ⟨ad.block, ad.off + 4, none⟩ = _ at k4
  change w2.cell? ⟨ad.block, ad.off + 5, none⟩ = _ at k5
  have hn6 : ¬ (n : Int) < 6 := by have := HL12.out; omega
  have hn4 : (4 : Int) < (n : Int) := by omega
  have hn5 : (5 : Int) < (n : Int) := by omega
  clear ac al r4 r5
  go_wp2
  go_ret
  exact ⟨rfl, Z.out⟩
theorem two_nil (W D J S : Int) (A : Option Addr) (n c : Nat) (m : List Int) (w : World) (hm : Rd w A m) (hn : m.length = n) (hs : n ≤ 500) (hu : UM m) (ho : ilst W D J S m = some []) (h55 : ¬ 1152921504606846976 < at0 m 5) (h44 : ¬ 1152921504606846976 < at0 m 4) : Tells 7 #[cf W D J S, .slice A n c] w (.bool true) := by
  have hd : decide ((500 : Int) < (n : Int)) = false := decide_eq_false (by omega)
  obtain ⟨hk, hlj, hl16, hul⟩ := ilst_lim hu ho
  have hlong := okm_long hk
  obtain ⟨hm1, _⟩ := okm_iff.1 hk
  obtain ⟨_, _, hJ, _⟩ := may_lim hm1
  have HL12 := Lib.hid (show 12 ≤ n by omega)
  have h4 : 4 < m.length := by omega
  have h5 : 5 < m.length := by omega
  have LM := Lib.hid hm
  have HN := Lib.hid hn
  have HS := Lib.hid hs
  have HU0 := Lib.hid hu
  have HO := Lib.hid ho
  have e5 : decide ((1152921504606846976 : Int) < at0 m 5) = false := decide_eq_false h55
  have e4 : decide ((1152921504606846976 : Int) < at0 m 4) = false := decide_eq_false h44
  clear hm hn hs hu ho hk hlj hl16 hul hlong hm1 hJ
  go_enter Try.func7, Try.ntmps7
  go_wp2_with fail
  refine (awake_any _).mono ?_
  rintro _ w1 ⟨rfl, z⟩
  have BX := Lib.hid ((Bx.mk w W D J S 23).below z)
  replace z := (box_below w _).trans (z.mono (by simp))
  have Z := Lib.hid z
  replace LM := Lib.hid (LM.out.below z)
  clear z
  obtain ⟨gx, x_0, x_1, x_2, x_3⟩ := BX.out
  go_wp2_with fail
  refine (dlist_L LM.out HN.out HS.out HU0.out HO.out (L := []) rfl (k := 0) rfl (B := true) rfl).mono ?_
  rintro _ w2 ⟨A2, c2, rfl, hc2, hr2, z⟩
  clear gx x_0 x_1 x_2 x_3
  replace Z := Lib.hid (Z.out.trans (z.mono Z.out.size))
  replace BX := Lib.hid (BX.out.below z)
  replace LM := Lib.hid (LM.out.below z)
  clear z hr2 hc2
  obtain ⟨ad, hA, al, ac⟩ := LM.out (by have := HL12.out; omega)
  subst hA
  have k4 := ac 4 _ (List.getElem?_eq_getElem h4)
  have k5 := ac 5 _ (List.getElem?_eq_getElem h5)
  have r4 := at0_in (l := m) (i := 4) (by omega) (by omega)
  have r5 := at0_in (l := m) (i := 5) (by omega) (by omega)
  change at0 m 4 = m[4] at r4
  change at0 m 5 = m[5] at r5
  rw [← r4] at k4
  rw [← r5] at k5
  change w2.cell? ⟨ad.block, ad.off + 4, none⟩ = _ at k4
  change w2.cell? ⟨ad.block, ad.off + 5, none⟩ = _ at k5
  have hn6 : ¬ (n : Int) < 6 := by have := HL12.out; omega
  have hn4 : (4 : Int) < (n : Int) := by omega
  have hn5 : (5 : Int) < (n : Int) := by omega
  clear ac al r4 r5
  go_wp2
  go_ret
  exact ⟨rfl, Z.out⟩
set_option maxRecDepth 100000 in
set_option maxHeartbeats 2000000 in
theorem two_one (W D J S : Int) (A : Option Addr) (n c : Nat) (m : List Int) (w : World) (hm : Rd w A m) (hn : m.length = n) (hs : n ≤ 500) (hu : UM m) (u : Int) (ho : ilst W D J S m = some [u]) (h55 : ¬ 1152921504606846976 < at0 m 5) (h44 : ¬ 1152921504606846976 < at0 m 4) : Tells 7 #[cf W D J S, .slice A n c] w (.bool true) := by
  have hd : decide ((500 : Int) < (n : Int)) = false := decide_eq_false (by omega)
  obtain ⟨hk, hlj, hl16, hul⟩ := ilst_lim hu ho
  have hlong := okm_long hk
  obtain ⟨hm1, _⟩ := okm_iff.1 hk
  obtain ⟨_, _, hJ, _⟩ := may_lim hm1
  have HL12 := Lib.hid (show 12 ≤ n by omega)
  have h4 : 4 < m.length := by omega
  have h5 : 5 < m.length := by omega
  have LM := Lib.hid hm
  have HN := Lib.hid hn
  have HS := Lib.hid hs
  have HU0 := Lib.hid hu
  have HO := Lib.hid ho
  have e4 : decide ((1152921504606846976 : Int) < at0 m 4) = false := decide_eq_false h44
  have e5 : decide ((1152921504606846976 : Int) < at0 m 5) = false := decide_eq_false h55
  obtain ⟨_, hvi⟩ := ilst_some hu (by omega) (by omega) ho
  have hu4 := at0_U hu 4
  obtain ⟨m', g, hduo, hend⟩ := deq_two hk hvi (by omega)
  have HU := Lib.hid (fun k => duo_inv (s1 := outS W D J S) (s2 := outS W D J S) (P := fun m => UM m ∧ m.length = n) (Q := UF) (fun m f h1 h2 => ⟨⟨(outS_U h1.1 h2).1, (outS_len _ _ _ _ _ _).trans h1.2⟩, (outS_U h1.1 h2).2⟩) (fun m f h1 h2 => ⟨⟨(outS_U h1.1 h2).1, (outS_len _ _ _ _ _ _).trans h1.2⟩, (outS_U h1.1 h2).2⟩) (s := (m, fbg 4 0 0, fbg 4 1 0)) ⟨hu, hn⟩ ⟨U0, U0, U0⟩ ⟨U0, U0, U0⟩ k)
  have HI := Lib.hid hduo
  obtain ⟨hgr, hil⟩ : g.res = 3 ∧ ilen W D J S m' = 0 := by
    rcases hend with ⟨_, h1, h2⟩ | ⟨_, _, h, _⟩
    · exact ⟨h1, h2⟩
    · cases h
  have HGR := Lib.hid hgr
  have HIL := Lib.hid hil
  clear hgr hil
  clear hm hn hu ho hk hlj hl16 hul hlong hm1 hJ hvi hu4 hduo hend
  go_enter Try.func7, Try.ntmps7
  go_wp2_with fail
  refine (awake_any _).mono ?_
  rintro _ w1 ⟨rfl, z⟩
  have BX := Lib.hid ((Bx.mk w W D J S 23).below z)
  replace z := (box_below w _).trans (z.mono (by simp))
  have Z := Lib.hid z
  replace LM := Lib.hid (LM.out.below z)
  clear z
  obtain ⟨gx, x_0, x_1, x_2, x_3⟩ := BX.out
  go_wp2_with fail
  refine (dlist_L LM.out HN.out HS.out HU0.out HO.out (L := [u]) rfl (k := 1) rfl (B := true) rfl).mono ?_
  rintro _ w2 ⟨A2, c2, rfl, hc2, hr2, z⟩
  clear gx x_0 x_1 x_2 x_3
  replace Z := Lib.hid (Z.out.trans (z.mono Z.out.size))
  replace BX := Lib.hid (BX.out.below z)
  replace LM := Lib.hid (LM.out.below z)
  obtain ⟨al0, hA2, _, _⟩ := hr2 (by simp)
  subst hA2
  have LL := Lib.hid hr2
  clear z hr2 hc2
  obtain ⟨ad, hA, al, ac⟩ := LM.out (by have := HL12.out; omega)
  subst hA
  have k4 := ac 4 _ (List.getElem?_eq_getElem h4)
  have k5 := ac 5 _ (List.getElem?_eq_getElem h5)
  have r4 := at0_in (l := m) (i := 4) (by omega) (by omega)
  have r5 := at0_in (l := m) (i := 5) (by omega) (by omega)
  change at0 m 4 = m[4] at r4
  change at0 m 5 = m[5] at r5
  rw [← r4] at k4
  rw [← r5] at k5
  change w2.cell? ⟨ad.block, ad.off + 4, none⟩ = _ at k4
  change w2.cell? ⟨ad.block, ad.off + 5, none⟩ = _ at k5
  have hn6 : ¬ (n : Int) < 6 := by have := HL12.out; omega
  have hn4 : (4 : Int) < (n : Int) := by omega
  have hn5 : (5 : Int) < (n : Int) := by omega
  clear ac al r4 r5
  go_wp2_with fail
  refine (begin_any 4 0 0 _).mono ?_
  rintro _ w3 ⟨rfl, z⟩
  replace Z := Lib.hid (Z.out.trans (z.mono Z.out.size))
  replace BX := Lib.hid (BX.out.below z)
  replace LM := Lib.hid (LM.out.below z)
  replace LL := Lib.hid (LL.out.below z)
  clear z
  clear k4 k5 hn6 hn4 hn5 e4 e5 h4 h5 h44 h55
  replace LL := Lib.hid (LL.out.rx (Nat.le_refl w3.heap.size))
  have hgf := Lib.hid (show w.heap.size < w3.heap.size from BX.out.1)
  have hzf := Lib.hid Z.out.size
  go_wp2_with fail
  refine (begin_any 4 1 0 _).mono ?_
  rintro _ w4 ⟨rfl, z⟩
  have BF := Lib.hid ((Bf.new w3 (fbg 4 0 0)).after z)
  replace z := keep_call z (bel_alloc w3 _)
  replace Z := Lib.hid (Z.out.trans (z.mono Z.out.size))
  replace BX := Lib.hid (BX.out.below z)
  replace LM := Lib.hid (LM.out.below z)
  replace LL := Lib.hid (LL.out.after z)
  clear z
  replace LL := Lib.hid (LL.out.ru (Nat.le_refl w4.heap.size))
  have HGK := Lib.hid BF.out.lt
  have HBX1 := Lib.hid (Nat.ne_of_lt hgf.out)
  have HBX2 := Lib.hid (Nat.ne_of_lt BX.out.1)
  obtain ⟨ws, hws⟩ : ∃ ws, ws = w4.alloc (.cells #[.int .i64 (fbg 4 1 0).op, .int .i64 (fbg 4 1 0).pc, .int .i64 (fbg 4 1 0).who, .int .u64 (fbg 4 1 0).val, .int .u64 (fbg 4 1 0).x, .int .u64 (fbg 4 1 0).y, .int .i64 (fbg 4 1 0).res] 28) := ⟨_, rfl⟩
  have hz := box_below w4 (.cells #[.int .i64 (fbg 4 1 0).op, .int .i64 (fbg 4 1 0).pc, .int .i64 (fbg 4 1 0).who, .int .u64 (fbg 4 1 0).val, .int .u64 (fbg 4 1 0).x, .int .u64 (fbg 4 1 0).y, .int .i64 (fbg 4 1 0).res] 28)
  rw [← hws] at hz
  have BG := Lib.hid (show Bf ws w4.heap.size (fbg 4 1 0) by rw [hws]; exact Bf.new w4 (fbg 4 1 0))
  replace BX := Lib.hid (BX.out.below hz)
  replace LM := Lib.hid (LM.out.below hz)
  replace LL := Lib.hid (LL.out.after hz)
  replace BF := Lib.hid (BF.out.after hz)
  replace Z := Lib.hid (Z.out.trans (hz.mono Z.out.size))
  have HW := Lib.hid hws
  clear hz hws
  obtain ⟨A, hAA⟩ : ∃ A, A = some ad := ⟨_, rfl⟩
  rw [← hAA] at LM ⊢
  clear hAA
  have HBB := Lib.hid BF.out.lt
  go_wp2
  go_loopw [11, 10] (fun i s wr => ∃ (j : Nat) (A : Option Addr) (c : Nat), i = .int .i64 j ∧ s = .slice A n c ∧ j ≤ 12 ∧ Hid (Rd wr A (duo (outS W D J S) (outS W D J S) j (m, fbg 4 0 0, fbg 4 1 0)).1) ∧ Hid (Bf wr w3.heap.size (duo (outS W D J S) (outS W D J S) j (m, fbg 4 0 0, fbg 4 1 0)).2.1) ∧ Hid (Bf wr w4.heap.size (duo (outS W D J S) (outS W D J S) j (m, fbg 4 0 0, fbg 4 1 0)).2.2) ∧ Hid (K2 w3.heap.size w4.heap.size ws wr)) (fun i _ _ => 12 - (intOf i).toNat)
  case atStart =>
    obtain rfl := HW.out
    exact ⟨0, A, c, rfl, rfl, by omega, LM, BF, BG, Lib.hid (K2.refl _ _ _)⟩
  case round =>
    clear BF BG LM
    obtain ⟨j, A, c, rfl, rfl, hj, LA, BF, BG, KB⟩ := hrel
    by_cases hlt : j < 12
    · obtain ⟨⟨huM, hlM⟩, hfF, hfG⟩ := HU.out j
      have HLj := Lib.hid hlM
      have HUF := Lib.hid hfF
      have HUG := Lib.hid hfG
      obtain ⟨M', F', hP1⟩ : ∃ M' F', outS W D J S (duo (outS W D J S) (outS W D J S) j (m, fbg 4 0 0, fbg 4 1 0)).1 (duo (outS W D J S) (outS W D J S) j (m, fbg 4 0 0, fbg 4 1 0)).2.1 = (M', F') := ⟨_, _, rfl⟩
      obtain ⟨M2, G', hP2⟩ : ∃ M2 G', outS W D J S M' (duo (outS W D J S) (outS W D J S) j (m, fbg 4 0 0, fbg 4 1 0)).2.2 = (M2, G') := ⟨_, _, rfl⟩
      have HE := Lib.hid (duo_one (k := j) (s := (m, fbg 4 0 0, fbg 4 1 0)) (show duo (outS W D J S) (outS W D J S) j (m, fbg 4 0 0, fbg 4 1 0) = ((duo (outS W D J S) (outS W D J S) j (m, fbg 4 0 0, fbg 4 1 0)).1, (duo (outS W D J S) (outS W D J S) j (m, fbg 4 0 0, fbg 4 1 0)).2.1, (duo (outS W D J S) (outS W D J S) j (m, fbg 4 0 0, fbg 4 1 0)).2.2) from rfl) hP1 hP2)
      have HLj2 := Lib.hid (show M'.length = n by have h : (outS W D J S (duo (outS W D J S) (outS W D J S) j (m, fbg 4 0 0, fbg 4 1 0)).1 (duo (outS W D J S) (outS W D J S) j (m, fbg 4 0 0, fbg 4 1 0)).2.1).1.length = (duo (outS W D J S) (outS W D J S) j (m, fbg 4 0 0, fbg 4 1 0)).1.length := outS_len _ _ _ _ _ _; rw [hP1] at h; exact h.trans hlM)
      have HP1 := Lib.hid hP1
      have HP2 := Lib.hid hP2
      clear hP1 hP2 huM hlM hfF hfG
      generalize (duo (outS W D J S) (outS W D J S) j (m, fbg 4 0 0, fbg 4 1 0)).1 = M at *
      generalize (duo (outS W D J S) (outS W D J S) j (m, fbg 4 0 0, fbg 4 1 0)).2.1 = F at *
      generalize (duo (outS W D J S) (outS W D J S) j (m, fbg 4 0 0, fbg 4 1 0)).2.2 = G at *
      obtain ⟨lBX, b0, b1, b2, b3⟩ := BX.out.k2 KB.out HBX1.out HBX2.out
      obtain ⟨d0, d1, d2, d3, d4, d5, d6⟩ := BF.out.cells
      have lBF := BF.out.lt
      go_wp2_with fail
      refine (out_n LA.out HLj.out hs HUF.out HP1.out).mono ?_
      rintro _ w7 ⟨A7, c7, rfl, hn7, z⟩
      have BF3 := BF.out.after z
      have BG3 := BG.out.after z
      clear b0 b1 b2 b3 d0 d1 d2 d3 d4 d5 d6 lBF lBX
      obtain ⟨d0, d1, d2, d3, d4, d5, d6⟩ := BF3.cells
      have fz := BF3.free
      have lBF := BF3.lt
      have hN := (hn7.pf BF.out.lt F').rd
      have hB3 := BF3.pf F'
      have hG3 := BG3.apart (Nat.ne_of_gt HGK.out) F'
      have hK3 := (KB.out.call HBB.out z).pfl F'
      clear hn7 z BG3
      go_upto_region 12 with fail
      change Code.wp _ _ _ _ (pf w7 w3.heap.size F')
      clear d0 d1 d2 d3 d4 d5 d6 fz lBF BF3 BF BG LA KB
      generalize pf w7 w3.heap.size F' = wp at hN hB3 hG3 hK3 ⊢
      have LA := Lib.hid hN
      have BF := Lib.hid hB3
      have BG := Lib.hid hG3
      have KB := Lib.hid hK3
      clear hN hB3 hG3 hK3
      obtain ⟨lBX, b0, b1, b2, b3⟩ := BX.out.k2 KB.out HBX1.out HBX2.out
      obtain ⟨d0, d1, d2, d3, d4, d5, d6⟩ := BG.out.cells
      have lBG := BG.out.lt
      go_wp2_with fail
      refine (out_n LA.out HLj2.out hs HUG.out HP2.out).mono ?_
      rintro _ w8 ⟨A8, c8, rfl, hn8, z⟩
      have BF3 := BF.out.after z
      have BG3 := BG.out.after z
      clear b0 b1 b2 b3 d0 d1 d2 d3 d4 d5 d6 lBG lBX
      obtain ⟨d0, d1, d2, d3, d4, d5, d6⟩ := BG3.cells
      have fz := BG3.free
      have lBG := BG3.lt
      have HN := Lib.hid ((hn8.pf BG.out.lt G').rd)
      have HG3 := Lib.hid (BG3.pf G')
      have HF3 := Lib.hid (BF3.apart (Nat.ne_of_lt HGK.out) G')
      have HK3 := Lib.hid ((KB.out.call HBB.out z).pfr HGK.out G')
      clear hn8 z BF3 BG3
      go_wp2_with fail
      go_roundw
      case rel => exact ⟨j + 1, A8, c8, by go_num, rfl, by omega, by rw [HE.out]; exact HN, by rw [HE.out]; exact HF3, by rw [HE.out]; exact HG3, HK3⟩
      case measure => simp [intOf]; omega
    · obtain rfl : j = 12 := by omega
      replace BX := Lib.hid (BX.out.k2 KB.out HBX1.out HBX2.out)
      replace LL := Lib.hid (LL.out.k2 KB.out)
      replace Z := Lib.hid (Z.out.trans (KB.out.low.mono hzf.out))
      clear KB HBB hj hlt HW
      have HML := Lib.hid (show m'.length = n by have := (HU.out 12).1.2; rw [HI.out] at this; exact this)
      rw [HI.out] at LA BF BG
      simp only at LA BF BG
      obtain ⟨_, hq, _, _, hadl, hadc⟩ := LL.out (by simp)
      cases hq
      have u0 : wr.cell? al0 = some (.int .u64 u) := hadc 0 u rfl
      have HAL := Lib.hid hadl
      clear hadc hadl
      obtain ⟨gx, x_0, x_1, x_2, x_3⟩ := BX.out
      obtain ⟨a0, a1, a2, a3, a4, a5, a6⟩ := BF.out.cells
      have la := BF.out.lt
      simp only at a0 a1 a2 a3 a4 a5 a6
      obtain ⟨b0, b1, b2, b3, b4, b5, b6⟩ := BG.out.cells
      have lb := BG.out.lt
      rw [HGR.out] at b6
      go_wp2
      have HK9 := Lib.hid (show ∀ x', Below wr.heap.size wr x' → (fun w' => w'.cell? ⟨w.heap.size, 0, none⟩ = some (.int .i64 W) ∧ w'.cell? ⟨w.heap.size, 1, none⟩ = some (.int .i64 D) ∧ w'.cell? ⟨w.heap.size, 2, none⟩ = some (.int .i64 J) ∧ w'.cell? ⟨w.heap.size, 3, none⟩ = some (.int .i64 S) ∧ w'.cell? ⟨w3.heap.size, 3, none⟩ = some (.int .u64 u) ∧ w'.cell? ⟨w3.heap.size, 6, none⟩ = some (.int .i64 1) ∧ w'.cell? ⟨w4.heap.size, 6, none⟩ = some (.int .i64 3) ∧ w'.cell? al0 = some (.int .u64 u) ∧ Below wr.heap.size wr w') x' from fun x' hx => by
        obtain ⟨_, e0, e1, e2, e3⟩ := BX.out.below hx
        obtain ⟨f0, f1, f2, f3, f4, f5, f6⟩ := (BF.out.after hx).cells
        obtain ⟨g0, g1, g2, g3, g4, g5, g6⟩ := (BG.out.after hx).cells
        exact ⟨e0, e1, e2, e3, f3, f6, (by rw [← HGR.out]; exact g6), (hx.cell (p := al0) HAL.out).trans u0, hx⟩)
      clear gx x_0 x_1 x_2 x_3 a0 a1 a2 a3 a4 a5 a6 la b0 b1 b2 b3 b4 b5 b6 lb
      refine wp_region_held_drew (S := fun w' => w'.cell? ⟨w.heap.size, 0, none⟩ = some (.int .i64 W) ∧ w'.cell? ⟨w.heap.size, 1, none⟩ = some (.int .i64 D) ∧ w'.cell? ⟨w.heap.size, 2, none⟩ = some (.int .i64 J) ∧ w'.cell? ⟨w.heap.size, 3, none⟩ = some (.int .i64 S) ∧ w'.cell? ⟨w3.heap.size, 3, none⟩ = some (.int .u64 u) ∧ w'.cell? ⟨w3.heap.size, 6, none⟩ = some (.int .i64 1) ∧ w'.cell? ⟨w4.heap.size, 6, none⟩ = some (.int .i64 3) ∧ w'.cell? al0 = some (.int .u64 u) ∧ Below wr.heap.size wr w') (by kernel_rfl) (HK9.out _ ((Below.refl _ _).drew)) (fun hHeld => ?_)
      refine wpAnyH_take (i := 0) (oi := { dst := some 77, op := Go.Op.fieldAddr 28 (Go.Operand.tmp 8) 6, type := 0, pos := "more.go:50", after := #[], guard := none }) (v := ?vto_0) rfl (by kernel_rfl) (by kernel_rfl) (by kernel_rfl) (fun _ _ _ h => h) (Or.inl ⟨by rfl, ?yto_0⟩) (by assumption) ?rto_0
      case yto_0 => (intro w hSw; (try dsimp only at hSw); go_simp; (try with_reducible rfl))
      (try simp only [Act.put, List.setIfInBounds_toArray, List.set_cons_zero, List.set_cons_succ])
      refine wpAnyH_take (i := 1) (oi := { dst := some 78, op := Go.Op.load 3 (Go.Operand.tmp 77), type := 3, pos := "more.go:50", after := #[{ on := 0, ground := Go.Ground.data }], guard := none }) (v := ?vto_1) rfl (by kernel_rfl) (by kernel_rfl) (by kernel_rfl) (fun _ _ _ h => h) (Or.inl ⟨by rfl, ?yto_1⟩) (by assumption) ?rto_1
      case yto_1 => (intro w hSw; (try dsimp only at hSw); go_simp; (try with_reducible rfl))
      (try simp only [Act.put, List.setIfInBounds_toArray, List.set_cons_zero, List.set_cons_succ])
      refine wpAnyH_take (i := 2) (oi := { dst := some 79, op := Go.Op.binOp Go.BinOp.eql 3 (Go.Operand.tmp 78) (Go.Operand.const (Go.Value.int Go.IntKind.i64 1)) 3, type := 4, pos := "more.go:50", after := #[{ on := 1, ground := Go.Ground.data }], guard := none }) (v := ?vto_2) rfl (by kernel_rfl) (by kernel_rfl) (by kernel_rfl) (fun _ _ _ h => h) (Or.inl ⟨by rfl, ?yto_2⟩) (by assumption) ?rto_2
      case yto_2 => (intro w hSw; (try dsimp only at hSw); go_simp; (try with_reducible rfl))
      (try simp only [Act.put, List.setIfInBounds_toArray, List.set_cons_zero, List.set_cons_succ])
      refine wpAnyH_take (i := 3) (oi := { dst := some 80, op := Go.Op.move (Go.Operand.tmp 79), type := 4, pos := "more.go:50", after := #[{ on := 2, ground := Go.Ground.data }], guard := none }) (v := ?vto_3) rfl (by kernel_rfl) (by kernel_rfl) (by kernel_rfl) (fun _ _ _ h => h) (Or.inl ⟨by rfl, ?yto_3⟩) (by assumption) ?rto_3
      case yto_3 => (intro w hSw; (try dsimp only at hSw); go_simp; (try with_reducible rfl))
      (try simp only [Act.put, List.setIfInBounds_toArray, List.set_cons_zero, List.set_cons_succ])
      refine wpAnyH_take (i := 4) (oi := { dst := some 81, op := Go.Op.fieldAddr 28 (Go.Operand.tmp 8) 3, type := 0, pos := "more.go:50", after := #[{ on := 3, ground := Go.Ground.guard }], guard := some (3, true) }) (v := ?vto_4) rfl (by kernel_rfl) (by kernel_rfl) (by kernel_rfl) (fun _ _ _ h => h) (Or.inl ⟨by rfl, ?yto_4⟩) (by assumption) ?rto_4
      case yto_4 => (intro w hSw; (try dsimp only at hSw); go_simp; (try with_reducible rfl))
      (try simp only [Act.put, List.setIfInBounds_toArray, List.set_cons_zero, List.set_cons_succ])
      refine wpAnyH_take (i := 5) (oi := { dst := some 82, op := Go.Op.load 26 (Go.Operand.tmp 81), type := 26, pos := "more.go:50", after := #[{ on := 4, ground := Go.Ground.data }, { on := 3, ground := Go.Ground.guard }], guard := some (3, true) }) (v := ?vto_5) rfl (by kernel_rfl) (by kernel_rfl) (by kernel_rfl) (fun _ _ _ h => h) (Or.inl ⟨by rfl, ?yto_5⟩) (by assumption) ?rto_5
      case yto_5 => (intro w hSw; (try dsimp only at hSw); go_simp; (try with_reducible rfl))
      (try simp only [Act.put, List.setIfInBounds_toArray, List.set_cons_zero, List.set_cons_succ])
      refine wpAnyH_take (i := 6) (oi := { dst := some 83, op := Go.Op.move (Go.Operand.tmp 6), type := 24, pos := "more.go:50", after := #[{ on := 3, ground := Go.Ground.guard }], guard := some (3, true) }) (v := ?vto_6) rfl (by kernel_rfl) (by kernel_rfl) (by kernel_rfl) (fun _ _ _ h => h) (Or.inl ⟨by rfl, ?yto_6⟩) (by assumption) ?rto_6
      case yto_6 => (intro w hSw; (try dsimp only at hSw); go_simp; (try with_reducible rfl))
      (try simp only [Act.put, List.setIfInBounds_toArray, List.set_cons_zero, List.set_cons_succ])
      refine wpAnyH_take (i := 7) (oi := { dst := some 84, op := Go.Op.indexAddr 24 (Go.Operand.tmp 83) (Go.Operand.const (Go.Value.int Go.IntKind.i64 0)), type := 0, pos := "more.go:50", after := #[{ on := 6, ground := Go.Ground.data }, { on := 3, ground := Go.Ground.guard }], guard := some (3, true) }) (v := ?vto_7) rfl (by kernel_rfl) (by kernel_rfl) (by kernel_rfl) (fun _ _ _ h => h) (Or.inl ⟨by rfl, ?yto_7⟩) (by assumption) ?rto_7
      case yto_7 => (intro w hSw; (try dsimp only at hSw); go_simp; (try with_reducible rfl))
      (try simp only [Act.put, List.setIfInBounds_toArray, List.set_cons_zero, List.set_cons_succ])
      refine wpAnyH_take (i := 8) (oi := { dst := some 85, op := Go.Op.load 26 (Go.Operand.tmp 84), type := 26, pos := "more.go:50", after := #[{ on := 7, ground := Go.Ground.data }, { on := 3, ground := Go.Ground.guard }], guard := some (3, true) }) (v := ?vto_8) rfl (by kernel_rfl) (by kernel_rfl) (by kernel_rfl) (fun _ _ _ h => h) (Or.inl ⟨by rfl, ?yto_8⟩) (by assumption) ?rto_8
      case yto_8 => (intro w hSw; (try dsimp only at hSw); go_simp; (try with_reducible rfl))
      (try simp only [Act.put, List.setIfInBounds_toArray, List.set_cons_zero, List.set_cons_succ])
      refine wpAnyH_take (i := 9) (oi := { dst := some 86, op := Go.Op.binOp Go.BinOp.eql 26 (Go.Operand.tmp 82) (Go.Operand.tmp 85) 26, type := 4, pos := "more.go:50", after := #[{ on := 5, ground := Go.Ground.data }, { on := 8, ground := Go.Ground.data }, { on := 3, ground := Go.Ground.guard }], guard := some (3, true) }) (v := ?vto_9) rfl (by kernel_rfl) (by kernel_rfl) (by kernel_rfl) (fun _ _ _ h => h) (Or.inl ⟨by rfl, ?yto_9⟩) (by assumption) ?rto_9
      case yto_9 => (intro w hSw; (try dsimp only at hSw); go_simp; (try with_reducible rfl))
      (try simp only [Act.put, List.setIfInBounds_toArray, List.set_cons_zero, List.set_cons_succ])
      refine wpAnyH_take (i := 10) (oi := { dst := some 87, op := Go.Op.pick (Go.Operand.tmp 80) (Go.Operand.tmp 86) (Go.Operand.const (Go.Value.bool false)), type := 4, pos := "more.go:50", after := #[{ on := 3, ground := Go.Ground.data }, { on := 9, ground := Go.Ground.data }], guard := none }) (v := ?vto_10) rfl (by kernel_rfl) (by kernel_rfl) (by kernel_rfl) (fun _ _ _ h => h) (Or.inl ⟨by rfl, ?yto_10⟩) (by assumption) ?rto_10
      case yto_10 => (intro w hSw; (try dsimp only at hSw); go_simp; (try with_reducible rfl))
      (try simp only [Act.put, List.setIfInBounds_toArray, List.set_cons_zero, List.set_cons_succ])
      refine wpAnyH_take (i := 11) (oi := { dst := some 88, op := Go.Op.move (Go.Operand.tmp 87), type := 4, pos := "more.go:50", after := #[{ on := 10, ground := Go.Ground.data }, { on := 3, ground := Go.Ground.chain }], guard := none }) (v := ?vto_11) rfl (by kernel_rfl) (by kernel_rfl) (by kernel_rfl) (fun _ _ _ h => h) (Or.inl ⟨by rfl, ?yto_11⟩) (by assumption) ?rto_11
      case yto_11 => (intro w hSw; (try dsimp only at hSw); go_simp; (try with_reducible rfl))
      (try simp only [Act.put, List.setIfInBounds_toArray, List.set_cons_zero, List.set_cons_succ])
      refine wpAnyH_take (i := 12) (oi := { dst := some 89, op := Go.Op.fieldAddr 28 (Go.Operand.tmp 9) 6, type := 0, pos := "more.go:50", after := #[{ on := 11, ground := Go.Ground.guard }], guard := some (11, true) }) (v := ?vto_12) rfl (by kernel_rfl) (by kernel_rfl) (by kernel_rfl) (fun _ _ _ h => h) (Or.inl ⟨by rfl, ?yto_12⟩) (by assumption) ?rto_12
      case yto_12 => (intro w hSw; (try dsimp only at hSw); go_simp; (try with_reducible rfl))
      (try simp only [Act.put, List.setIfInBounds_toArray, List.set_cons_zero, List.set_cons_succ])
      refine wpAnyH_take (i := 13) (oi := { dst := some 90, op := Go.Op.load 3 (Go.Operand.tmp 89), type := 3, pos := "more.go:50", after := #[{ on := 12, ground := Go.Ground.data }, { on := 11, ground := Go.Ground.guard }], guard := some (11, true) }) (v := ?vto_13) rfl (by kernel_rfl) (by kernel_rfl) (by kernel_rfl) (fun _ _ _ h => h) (Or.inl ⟨by rfl, ?yto_13⟩) (by assumption) ?rto_13
      case yto_13 => (intro w hSw; (try dsimp only at hSw); go_simp; (try with_reducible rfl))
      (try simp only [Act.put, List.setIfInBounds_toArray, List.set_cons_zero, List.set_cons_succ])
      refine wpAnyH_take (i := 14) (oi := { dst := some 91, op := Go.Op.binOp Go.BinOp.eql 3 (Go.Operand.tmp 90) (Go.Operand.const (Go.Value.int Go.IntKind.i64 3)) 3, type := 4, pos := "more.go:50", after := #[{ on := 13, ground := Go.Ground.data }, { on := 11, ground := Go.Ground.guard }], guard := some (11, true) }) (v := ?vto_14) rfl (by kernel_rfl) (by kernel_rfl) (by kernel_rfl) (fun _ _ _ h => h) (Or.inl ⟨by rfl, ?yto_14⟩) (by assumption) ?rto_14
      case yto_14 => (intro w hSw; (try dsimp only at hSw); go_simp; (try with_reducible rfl))
      (try simp only [Act.put, List.setIfInBounds_toArray, List.set_cons_zero, List.set_cons_succ])
      refine wpAnyH_take (i := 15) (oi := { dst := some 92, op := Go.Op.pick (Go.Operand.tmp 88) (Go.Operand.tmp 91) (Go.Operand.const (Go.Value.bool false)), type := 4, pos := "more.go:50", after := #[{ on := 11, ground := Go.Ground.data }, { on := 14, ground := Go.Ground.data }], guard := none }) (v := ?vto_15) rfl (by kernel_rfl) (by kernel_rfl) (by kernel_rfl) (fun _ _ _ h => h) (Or.inl ⟨by rfl, ?yto_15⟩) (by assumption) ?rto_15
      case yto_15 => (intro w hSw; (try dsimp only at hSw); go_simp; (try with_reducible rfl))
      (try simp only [Act.put, List.setIfInBounds_toArray, List.set_cons_zero, List.set_cons_succ])
      refine wpAnyH_take (i := 16) (oi := { dst := some 93, op := Go.Op.move (Go.Operand.tmp 92), type := 4, pos := "more.go:50", after := #[{ on := 15, ground := Go.Ground.data }, { on := 11, ground := Go.Ground.chain }], guard := none }) (v := ?vto_16) rfl (by kernel_rfl) (by kernel_rfl) (by kernel_rfl) (fun _ _ _ h => h) (Or.inl ⟨by rfl, ?yto_16⟩) (by assumption) ?rto_16
      case yto_16 => (intro w hSw; (try dsimp only at hSw); go_simp; (try with_reducible rfl))
      (try simp only [Act.put, List.setIfInBounds_toArray, List.set_cons_zero, List.set_cons_succ])
      refine wpAnyH_take (i := 17) (oi := { dst := some 94, op := Go.Op.load 23 (Go.Operand.tmp 2), type := 23, pos := "more.go:50", after := #[{ on := 16, ground := Go.Ground.guard }], guard := some (16, true) }) (v := ?vto_17) rfl (by kernel_rfl) (by kernel_rfl) (by kernel_rfl) (fun _ _ _ h => h) (Or.inl ⟨by rfl, ?yto_17⟩) (by assumption) ?rto_17
      case yto_17 => (intro w hSw; (try dsimp only at hSw); go_simp; (try with_reducible rfl))
      (try simp only [Act.put, List.setIfInBounds_toArray, List.set_cons_zero, List.set_cons_succ])
      refine wpAnyH_take (i := 18) (oi := { dst := some 95, op := Go.Op.move (Go.Operand.tmp 10), type := 25, pos := "more.go:50", after := #[{ on := 16, ground := Go.Ground.guard }], guard := some (16, true) }) (v := ?vto_18) rfl (by kernel_rfl) (by kernel_rfl) (by kernel_rfl) (fun _ _ _ h => h) (Or.inl ⟨by rfl, ?yto_18⟩) (by assumption) ?rto_18
      case yto_18 => (intro w hSw; (try dsimp only at hSw); go_simp; (try with_reducible rfl))
      (try simp only [Act.put, List.setIfInBounds_toArray, List.set_cons_zero, List.set_cons_succ])
      refine wpAnyH_ready (rs := [19]) (by kernel_rfl) (by simp) ?_
      refine AllReadyH.cons (o := { dst := some 96, op := Go.Op.call { callee := Go.Callee.value (Go.Operand.func 21), args := #[Go.Operand.tmp 94, Go.Operand.tmp 95], argTypes := #[23, 25] }, type := 3, pos := "more.go:50", after := #[{ on := 17, ground := Go.Ground.data }, { on := 18, ground := Go.Ground.data }, { on := 16, ground := Go.Ground.chain }, { on := 16, ground := Go.Ground.guard }], guard := some (16, true) }) rfl (fun K hK => ?_) AllReadyH.nil
      go_simp
      refine (Tells.of (qlen_any W D J S A n c m' _ (LA.out.below (hHeld.2.2.2.2.2.2.2.2)) HML.out HS.out) (v' := .int .i64 0) (by rw [HIL.out])).mono ?_
      rintro e w' ⟨rfl, hb⟩
      go_wp2_with fail
      refine hK.out _ _ (held_call HK9.out (fun _ h => h.2.2.2.2.2.2.2.2) hb hHeld) (fun hHeld2 => ?_)
      clear hK K hHeld
      have hHeld := hHeld2
      clear hHeld2
      (try simp only [Act.put, List.setIfInBounds_toArray, List.set_cons_zero, List.set_cons_succ])
      refine wpAnyH_take (i := 20) (oi := { dst := some 97, op := Go.Op.binOp Go.BinOp.eql 3 (Go.Operand.tmp 96) (Go.Operand.const (Go.Value.int Go.IntKind.i64 0)) 3, type := 4, pos := "more.go:50", after := #[{ on := 19, ground := Go.Ground.data }, { on := 16, ground := Go.Ground.guard }], guard := some (16, true) }) (v := ?vto_20) rfl (by kernel_rfl) (by kernel_rfl) (by kernel_rfl) (fun _ _ _ h => h) (Or.inl ⟨by rfl, ?yto_20⟩) (by assumption) ?rto_20
      case yto_20 => (intro w hSw; (try dsimp only at hSw); go_simp; (try with_reducible rfl))
      (try simp only [Act.put, List.setIfInBounds_toArray, List.set_cons_zero, List.set_cons_succ])
      refine wpAnyH_take (i := 21) (oi := { dst := some 98, op := Go.Op.pick (Go.Operand.tmp 93) (Go.Operand.tmp 97) (Go.Operand.const (Go.Value.bool false)), type := 4, pos := "more.go:50", after := #[{ on := 16, ground := Go.Ground.data }, { on := 20, ground := Go.Ground.data }], guard := none }) (v := ?vto_21) rfl (by kernel_rfl) (by kernel_rfl) (by kernel_rfl) (fun _ _ _ h => h) (Or.inl ⟨by rfl, ?yto_21⟩) (by assumption) ?rto_21
      case yto_21 => (intro w hSw; (try dsimp only at hSw); go_simp; (try with_reducible rfl))
      (try simp only [Act.put, List.setIfInBounds_toArray, List.set_cons_zero, List.set_cons_succ])
      refine wpAnyH_take (i := 22) (oi := { dst := some 4, op := Go.Op.assign (Go.Operand.tmp 98), type := 4, pos := "more.go:50", after := #[{ on := 21, ground := Go.Ground.data }, { on := 19, ground := Go.Ground.chain }, { on := 0, ground := Go.Ground.phase }, { on := 1, ground := Go.Ground.phase }, { on := 2, ground := Go.Ground.phase }, { on := 3, ground := Go.Ground.phase }, { on := 4, ground := Go.Ground.phase }, { on := 5, ground := Go.Ground.phase }, { on := 6, ground := Go.Ground.phase }, { on := 7, ground := Go.Ground.phase }, { on := 8, ground := Go.Ground.phase }, { on := 9, ground := Go.Ground.phase }, { on := 10, ground := Go.Ground.phase }, { on := 11, ground := Go.Ground.phase }, { on := 12, ground := Go.Ground.phase }, { on := 13, ground := Go.Ground.phase }, { on := 14, ground := Go.Ground.phase }, { on := 15, ground := Go.Ground.phase }, { on := 16, ground := Go.Ground.phase }, { on := 17, ground := Go.Ground.phase }, { on := 18, ground := Go.Ground.phase }, { on := 19, ground := Go.Ground.phase }, { on := 20, ground := Go.Ground.phase }, { on := 21, ground := Go.Ground.phase }], guard := none }) (v := ?vto_22) rfl (by kernel_rfl) (by kernel_rfl) (by kernel_rfl) (fun _ _ _ h => h) (Or.inl ⟨by rfl, ?yto_22⟩) (by assumption) ?rto_22
      case yto_22 => (intro w hSw; (try dsimp only at hSw); go_simp; (try with_reducible rfl))
      (try simp only [Act.put, List.setIfInBounds_toArray, List.set_cons_zero, List.set_cons_succ])
      refine wpAnyH_done (by kernel_rfl) ?_ _
      go_wp2
      go_ret
      exact ⟨rfl, Z.out.trans ((hHeld.2.2.2.2.2.2.2.2).mono Z.out.size)⟩
set_option maxRecDepth 100000 in
set_option maxHeartbeats 2000000 in
theorem two_more (W D J S : Int) (A : Option Addr) (n c : Nat) (m : List Int) (w : World) (hm : Rd w A m) (hn : m.length = n) (hs : n ≤ 500) (hu : UM m) (u u2 : Int) (l2 : List Int) (ho : ilst W D J S m = some (u :: u2 :: l2)) (h55 : ¬ 1152921504606846976 < at0 m 5) (h44 : ¬ 1152921504606846976 < at0 m 4) : Tells 7 #[cf W D J S, .slice A n c] w (.bool true) := by
  have hd : decide ((500 : Int) < (n : Int)) = false := decide_eq_false (by omega)
  obtain ⟨hk, hlj, hl16, hul⟩ := ilst_lim hu ho
  have hlong := okm_long hk
  obtain ⟨hm1, _⟩ := okm_iff.1 hk
  obtain ⟨_, _, hJ, _⟩ := may_lim hm1
  have HL12 := Lib.hid (show 12 ≤ n by omega)
  have h4 : 4 < m.length := by omega
  have h5 : 5 < m.length := by omega
  have LM := Lib.hid hm
  have HN := Lib.hid hn
  have HS := Lib.hid hs
  have HU0 := Lib.hid hu
  have HO := Lib.hid ho
  have e4 : decide ((1152921504606846976 : Int) < at0 m 4) = false := decide_eq_false h44
  have e5 : decide ((1152921504606846976 : Int) < at0 m 5) = false := decide_eq_false h55
  obtain ⟨_, hvi⟩ := ilst_some hu (by omega) (by omega) ho
  have hu4 := at0_U hu 4
  obtain ⟨m', g, hduo, hend⟩ := deq_two hk hvi (by omega)
  have HU := Lib.hid (fun k => duo_inv (s1 := outS W D J S) (s2 := outS W D J S) (P := fun m => UM m ∧ m.length = n) (Q := UF) (fun m f h1 h2 => ⟨⟨(outS_U h1.1 h2).1, (outS_len _ _ _ _ _ _).trans h1.2⟩, (outS_U h1.1 h2).2⟩) (fun m f h1 h2 => ⟨⟨(outS_U h1.1 h2).1, (outS_len _ _ _ _ _ _).trans h1.2⟩, (outS_U h1.1 h2).2⟩) (s := (m, fbg 4 0 0, fbg 4 1 0)) ⟨hu, hn⟩ ⟨U0, U0, U0⟩ ⟨U0, U0, U0⟩ k)
  have HI := Lib.hid hduo
  obtain ⟨hgr, hgv, hil⟩ : g.res = 1 ∧ g.val = u2 ∧ ilen W D J S m' = l2.length := by
    rcases hend with ⟨h, _⟩ | ⟨_, _, h, h1, h2, h3⟩
    · cases h
    · injection h with ha hb
      subst ha hb
      exact ⟨h1, h2, h3⟩
  have HGR := Lib.hid hgr
  have HGV := Lib.hid hgv
  have HIL := Lib.hid hil
  clear hgr hgv hil
  obtain ⟨k2, hk2⟩ : ∃ k2, l2.length = k2 := ⟨_, rfl⟩
  obtain ⟨K, hKK⟩ : ∃ K, (u :: u2 :: l2).length = K := ⟨_, rfl⟩
  have hK2 : K = k2 + 2 := by rw [← hKK]; simp [hk2]
  have HK := Lib.hid hKK
  have HK2 := Lib.hid hk2
  have HKE := Lib.hid hK2
  have HK16 := Lib.hid (show K ≤ 16 by rw [← hKK]; exact hl16)
  have hk0 : ((K : Int) == 0) = false := by rw [beq_eq_false_iff_ne]; omega
  have hk1 : ((K : Int) == 1) = false := by rw [beq_eq_false_iff_ne]; omega
  clear hk2 hKK hK2
  clear hm hn hu ho hk hlj hl16 hul hlong hm1 hJ hvi hu4 hduo hend
  go_enter Try.func7, Try.ntmps7
  go_wp2_with fail
  refine (awake_any _).mono ?_
  rintro _ w1 ⟨rfl, z⟩
  have BX := Lib.hid ((Bx.mk w W D J S 23).below z)
  replace z := (box_below w _).trans (z.mono (by simp))
  have Z := Lib.hid z
  replace LM := Lib.hid (LM.out.below z)
  clear z
  obtain ⟨gx, x_0, x_1, x_2, x_3⟩ := BX.out
  go_wp2_with fail
  refine (dlist_L LM.out HN.out HS.out HU0.out HO.out (L := (u :: u2 :: l2)) rfl HK.out (B := true) rfl).mono ?_
  rintro _ w2 ⟨A2, c2, rfl, hc2, hr2, z⟩
  clear gx x_0 x_1 x_2 x_3
  replace Z := Lib.hid (Z.out.trans (z.mono Z.out.size))
  replace BX := Lib.hid (BX.out.below z)
  replace LM := Lib.hid (LM.out.below z)
  obtain ⟨al0, hA2, _, _⟩ := hr2 (by simp)
  subst hA2
  have LL := Lib.hid hr2
  clear z hr2 hc2
  obtain ⟨ad, hA, al, ac⟩ := LM.out (by have := HL12.out; omega)
  subst hA
  have k4 := ac 4 _ (List.getElem?_eq_getElem h4)
  have k5 := ac 5 _ (List.getElem?_eq_getElem h5)
  have r4 := at0_in (l := m) (i := 4) (by omega) (by omega)
  have r5 := at0_in (l := m) (i := 5) (by omega) (by omega)
  change at0 m 4 = m[4] at r4
  change at0 m 5 = m[5] at r5
  rw [← r4] at k4
  rw [← r5] at k5
  change w2.cell? ⟨ad.block, ad.off + 4, none⟩ = _ at k4
  change w2.cell? ⟨ad.block, ad.off + 5, none⟩ = _ at k5
  have hn6 : ¬ (n : Int) < 6 := by have := HL12.out; omega
  have hn4 : (4 : Int) < (n : Int) := by omega
  have hn5 : (5 : Int) < (n : Int) := by omega
  clear ac al r4 r5
  go_wp2_with fail
  refine (begin_any 4 0 0 _).mono ?_
  rintro _ w3 ⟨rfl, z⟩
  replace Z := Lib.hid (Z.out.trans (z.mono Z.out.size))
  replace BX := Lib.hid (BX.out.below z)
  replace LM := Lib.hid (LM.out.below z)
  replace LL := Lib.hid (LL.out.below z)
  clear z
  clear k4 k5 hn6 hn4 hn5 e4 e5 h4 h5 h44 h55
  replace LL := Lib.hid (LL.out.rx (Nat.le_refl w3.heap.size))
  have hgf := Lib.hid (show w.heap.size < w3.heap.size from BX.out.1)
  have hzf := Lib.hid Z.out.size
  go_wp2_with fail
  refine (begin_any 4 1 0 _).mono ?_
  rintro _ w4 ⟨rfl, z⟩
  have BF := Lib.hid ((Bf.new w3 (fbg 4 0 0)).after z)
  replace z := keep_call z (bel_alloc w3 _)
  replace Z := Lib.hid (Z.out.trans (z.mono Z.out.size))
  replace BX := Lib.hid (BX.out.below z)
  replace LM := Lib.hid (LM.out.below z)
  replace LL := Lib.hid (LL.out.after z)
  clear z
  replace LL := Lib.hid (LL.out.ru (Nat.le_refl w4.heap.size))
  have HGK := Lib.hid BF.out.lt
  have HBX1 := Lib.hid (Nat.ne_of_lt hgf.out)
  have HBX2 := Lib.hid (Nat.ne_of_lt BX.out.1)
  obtain ⟨ws, hws⟩ : ∃ ws, ws = w4.alloc (.cells #[.int .i64 (fbg 4 1 0).op, .int .i64 (fbg 4 1 0).pc, .int .i64 (fbg 4 1 0).who, .int .u64 (fbg 4 1 0).val, .int .u64 (fbg 4 1 0).x, .int .u64 (fbg 4 1 0).y, .int .i64 (fbg 4 1 0).res] 28) := ⟨_, rfl⟩
  have hz := box_below w4 (.cells #[.int .i64 (fbg 4 1 0).op, .int .i64 (fbg 4 1 0).pc, .int .i64 (fbg 4 1 0).who, .int .u64 (fbg 4 1 0).val, .int .u64 (fbg 4 1 0).x, .int .u64 (fbg 4 1 0).y, .int .i64 (fbg 4 1 0).res] 28)
  rw [← hws] at hz
  have BG := Lib.hid (show Bf ws w4.heap.size (fbg 4 1 0) by rw [hws]; exact Bf.new w4 (fbg 4 1 0))
  replace BX := Lib.hid (BX.out.below hz)
  replace LM := Lib.hid (LM.out.below hz)
  replace LL := Lib.hid (LL.out.after hz)
  replace BF := Lib.hid (BF.out.after hz)
  replace Z := Lib.hid (Z.out.trans (hz.mono Z.out.size))
  have HW := Lib.hid hws
  clear hz hws
  obtain ⟨A, hAA⟩ : ∃ A, A = some ad := ⟨_, rfl⟩
  rw [← hAA] at LM ⊢
  clear hAA
  have HBB := Lib.hid BF.out.lt
  go_wp2
  go_loopw [11, 10] (fun i s wr => ∃ (j : Nat) (A : Option Addr) (c : Nat), i = .int .i64 j ∧ s = .slice A n c ∧ j ≤ 12 ∧ Hid (Rd wr A (duo (outS W D J S) (outS W D J S) j (m, fbg 4 0 0, fbg 4 1 0)).1) ∧ Hid (Bf wr w3.heap.size (duo (outS W D J S) (outS W D J S) j (m, fbg 4 0 0, fbg 4 1 0)).2.1) ∧ Hid (Bf wr w4.heap.size (duo (outS W D J S) (outS W D J S) j (m, fbg 4 0 0, fbg 4 1 0)).2.2) ∧ Hid (K2 w3.heap.size w4.heap.size ws wr)) (fun i _ _ => 12 - (intOf i).toNat)
  case atStart =>
    obtain rfl := HW.out
    exact ⟨0, A, c, rfl, rfl, by omega, LM, BF, BG, Lib.hid (K2.refl _ _ _)⟩
  case round =>
    clear BF BG LM
    obtain ⟨j, A, c, rfl, rfl, hj, LA, BF, BG, KB⟩ := hrel
    by_cases hlt : j < 12
    · obtain ⟨⟨huM, hlM⟩, hfF, hfG⟩ := HU.out j
      have HLj := Lib.hid hlM
      have HUF := Lib.hid hfF
      have HUG := Lib.hid hfG
      obtain ⟨M', F', hP1⟩ : ∃ M' F', outS W D J S (duo (outS W D J S) (outS W D J S) j (m, fbg 4 0 0, fbg 4 1 0)).1 (duo (outS W D J S) (outS W D J S) j (m, fbg 4 0 0, fbg 4 1 0)).2.1 = (M', F') := ⟨_, _, rfl⟩
      obtain ⟨M2, G', hP2⟩ : ∃ M2 G', outS W D J S M' (duo (outS W D J S) (outS W D J S) j (m, fbg 4 0 0, fbg 4 1 0)).2.2 = (M2, G') := ⟨_, _, rfl⟩
      have HE := Lib.hid (duo_one (k := j) (s := (m, fbg 4 0 0, fbg 4 1 0)) (show duo (outS W D J S) (outS W D J S) j (m, fbg 4 0 0, fbg 4 1 0) = ((duo (outS W D J S) (outS W D J S) j (m, fbg 4 0 0, fbg 4 1 0)).1, (duo (outS W D J S) (outS W D J S) j (m, fbg 4 0 0, fbg 4 1 0)).2.1, (duo (outS W D J S) (outS W D J S) j (m, fbg 4 0 0, fbg 4 1 0)).2.2) from rfl) hP1 hP2)
      have HLj2 := Lib.hid (show M'.length = n by have h : (outS W D J S (duo (outS W D J S) (outS W D J S) j (m, fbg 4 0 0, fbg 4 1 0)).1 (duo (outS W D J S) (outS W D J S) j (m, fbg 4 0 0, fbg 4 1 0)).2.1).1.length = (duo (outS W D J S) (outS W D J S) j (m, fbg 4 0 0, fbg 4 1 0)).1.length := outS_len _ _ _ _ _ _; rw [hP1] at h; exact h.trans hlM)
      have HP1 := Lib.hid hP1
      have HP2 := Lib.hid hP2
      clear hP1 hP2 huM hlM hfF hfG
      generalize (duo (outS W D J S) (outS W D J S) j (m, fbg 4 0 0, fbg 4 1 0)).1 = M at *
      generalize (duo (outS W D J S) (outS W D J S) j (m, fbg 4 0 0, fbg 4 1 0)).2.1 = F at *
      generalize (duo (outS W D J S) (outS W D J S) j (m, fbg 4 0 0, fbg 4 1 0)).2.2 = G at *
      obtain ⟨lBX, b0, b1, b2, b3⟩ := BX.out.k2 KB.out HBX1.out HBX2.out
      obtain ⟨d0, d1, d2, d3, d4, d5, d6⟩ := BF.out.cells
      have lBF := BF.out.lt
      go_wp2_with fail
      refine (out_n LA.out HLj.out hs HUF.out HP1.out).mono ?_
      rintro _ w7 ⟨A7, c7, rfl, hn7, z⟩
      have BF3 := BF.out.after z
      have BG3 := BG.out.after z
      clear b0 b1 b2 b3 d0 d1 d2 d3 d4 d5 d6 lBF lBX
      obtain ⟨d0, d1, d2, d3, d4, d5, d6⟩ := BF3.cells
      have fz := BF3.free
      have lBF := BF3.lt
      have hN := (hn7.pf BF.out.lt F').rd
      have hB3 := BF3.pf F'
      have hG3 := BG3.apart (Nat.ne_of_gt HGK.out) F'
      have hK3 := (KB.out.call HBB.out z).pfl F'
      clear hn7 z BG3
      go_upto_region 12 with fail
      change Code.wp _ _ _ _ (pf w7 w3.heap.size F')
      clear d0 d1 d2 d3 d4 d5 d6 fz lBF BF3 BF BG LA KB
      generalize pf w7 w3.heap.size F' = wp at hN hB3 hG3 hK3 ⊢
      have LA := Lib.hid hN
      have BF := Lib.hid hB3
      have BG := Lib.hid hG3
      have KB := Lib.hid hK3
      clear hN hB3 hG3 hK3
      obtain ⟨lBX, b0, b1, b2, b3⟩ := BX.out.k2 KB.out HBX1.out HBX2.out
      obtain ⟨d0, d1, d2, d3, d4, d5, d6⟩ := BG.out.cells
      have lBG := BG.out.lt
      go_wp2_with fail
      refine (out_n LA.out HLj2.out hs HUG.out HP2.out).mono ?_
      rintro _ w8 ⟨A8, c8, rfl, hn8, z⟩
      have BF3 := BF.out.after z
      have BG3 := BG.out.after z
      clear b0 b1 b2 b3 d0 d1 d2 d3 d4 d5 d6 lBG lBX
      obtain ⟨d0, d1, d2, d3, d4, d5, d6⟩ := BG3.cells
      have fz := BG3.free
      have lBG := BG3.lt
      have HN := Lib.hid ((hn8.pf BG.out.lt G').rd)
      have HG3 := Lib.hid (BG3.pf G')
      have HF3 := Lib.hid (BF3.apart (Nat.ne_of_lt HGK.out) G')
      have HK3 := Lib.hid ((KB.out.call HBB.out z).pfr HGK.out G')
      clear hn8 z BF3 BG3
      go_wp2_with fail
      go_roundw
      case rel => exact ⟨j + 1, A8, c8, by go_num, rfl, by omega, by rw [HE.out]; exact HN, by rw [HE.out]; exact HF3, by rw [HE.out]; exact HG3, HK3⟩
      case measure => simp [intOf]; omega
    · obtain rfl : j = 12 := by omega
      replace BX := Lib.hid (BX.out.k2 KB.out HBX1.out HBX2.out)
      replace LL := Lib.hid (LL.out.k2 KB.out)
      replace Z := Lib.hid (Z.out.trans (KB.out.low.mono hzf.out))
      clear KB HBB hj hlt HW
      have HML := Lib.hid (show m'.length = n by have := (HU.out 12).1.2; rw [HI.out] at this; exact this)
      rw [HI.out] at LA BF BG
      simp only at LA BF BG
      obtain ⟨_, hq, _, _, hadl, hadc⟩ := LL.out (by simp)
      cases hq
      have u0 : wr.cell? al0 = some (.int .u64 u) := hadc 0 u rfl
      have u1 : wr.cell? ⟨al0.block, al0.off + 1, none⟩ = some (.int .u64 u2) := hadc 1 u2 rfl
      have HAL := Lib.hid hadl
      clear hadc hadl
      obtain ⟨gx, x_0, x_1, x_2, x_3⟩ := BX.out
      obtain ⟨a0, a1, a2, a3, a4, a5, a6⟩ := BF.out.cells
      have la := BF.out.lt
      simp only at a0 a1 a2 a3 a4 a5 a6
      obtain ⟨b0, b1, b2, b3, b4, b5, b6⟩ := BG.out.cells
      have lb := BG.out.lt
      rw [HGR.out] at b6
      rw [HGV.out] at b3
      have hw2 : IntKind.i64.wrap ((K : Int) - 2) = (k2 : Int) := by have := HKE.out; have := HK16.out; rw [IntKind.wrap_i64]; omega
      have hi0n : 0 < K := by have := HKE.out; omega
      have hi1n : 1 < K := by have := HKE.out; omega
      have hi0 : (0 : Int) < (K : Int) := by have := HKE.out; omega
      have hi1 : (1 : Int) < (K : Int) := by have := HKE.out; omega
      go_wp2
      have HK9 := Lib.hid (show ∀ x', Below wr.heap.size wr x' → (fun w' => w'.cell? ⟨w.heap.size, 0, none⟩ = some (.int .i64 W) ∧ w'.cell? ⟨w.heap.size, 1, none⟩ = some (.int .i64 D) ∧ w'.cell? ⟨w.heap.size, 2, none⟩ = some (.int .i64 J) ∧ w'.cell? ⟨w.heap.size, 3, none⟩ = some (.int .i64 S) ∧ w'.cell? ⟨w3.heap.size, 3, none⟩ = some (.int .u64 u) ∧ w'.cell? ⟨w3.heap.size, 6, none⟩ = some (.int .i64 1) ∧ w'.cell? ⟨w4.heap.size, 3, none⟩ = some (.int .u64 u2) ∧ w'.cell? ⟨w4.heap.size, 6, none⟩ = some (.int .i64 1) ∧ w'.cell? al0 = some (.int .u64 u) ∧ w'.cell? ⟨al0.block, al0.off + 1, none⟩ = some (.int .u64 u2) ∧ Below wr.heap.size wr w') x' from fun x' hx => by
        obtain ⟨_, e0, e1, e2, e3⟩ := BX.out.below hx
        obtain ⟨f0, f1, f2, f3, f4, f5, f6⟩ := (BF.out.after hx).cells
        obtain ⟨g0, g1, g2, g3, g4, g5, g6⟩ := (BG.out.after hx).cells
        exact ⟨e0, e1, e2, e3, f3, f6, (by rw [← HGV.out]; exact g3), (by rw [← HGR.out]; exact g6), (hx.cell (p := al0) HAL.out).trans u0, (hx.cell (p := ⟨al0.block, al0.off + 1, none⟩) HAL.out).trans u1, hx⟩)
      clear gx x_0 x_1 x_2 x_3 a0 a1 a2 a3 a4 a5 a6 la b0 b1 b2 b3 b4 b5 b6 lb
      refine wp_region_held_drew (S := fun w' => w'.cell? ⟨w.heap.size, 0, none⟩ = some (.int .i64 W) ∧ w'.cell? ⟨w.heap.size, 1, none⟩ = some (.int .i64 D) ∧ w'.cell? ⟨w.heap.size, 2, none⟩ = some (.int .i64 J) ∧ w'.cell? ⟨w.heap.size, 3, none⟩ = some (.int .i64 S) ∧ w'.cell? ⟨w3.heap.size, 3, none⟩ = some (.int .u64 u) ∧ w'.cell? ⟨w3.heap.size, 6, none⟩ = some (.int .i64 1) ∧ w'.cell? ⟨w4.heap.size, 3, none⟩ = some (.int .u64 u2) ∧ w'.cell? ⟨w4.heap.size, 6, none⟩ = some (.int .i64 1) ∧ w'.cell? al0 = some (.int .u64 u) ∧ w'.cell? ⟨al0.block, al0.off + 1, none⟩ = some (.int .u64 u2) ∧ Below wr.heap.size wr w') (by kernel_rfl) (HK9.out _ ((Below.refl _ _).drew)) (fun hHeld => ?_)
      refine wpAnyH_take (i := 0) (oi := { dst := some 99, op := Go.Op.fieldAddr 28 (Go.Operand.tmp 8) 6, type := 0, pos := "more.go:52", after := #[], guard := none }) (v := ?vtm_0) rfl (by kernel_rfl) (by kernel_rfl) (by kernel_rfl) (fun _ _ _ h => h) (Or.inl ⟨by rfl, ?ytm_0⟩) (by assumption) ?rtm_0
      case ytm_0 => (intro w hSw; (try dsimp only at hSw); go_simp; (try with_reducible rfl))
      (try simp only [Act.put, List.setIfInBounds_toArray, List.set_cons_zero, List.set_cons_succ])
      refine wpAnyH_take (i := 1) (oi := { dst := some 100, op := Go.Op.load 3 (Go.Operand.tmp 99), type := 3, pos := "more.go:52", after := #[{ on := 0, ground := Go.Ground.data }], guard := none }) (v := ?vtm_1) rfl (by kernel_rfl) (by kernel_rfl) (by kernel_rfl) (fun _ _ _ h => h) (Or.inl ⟨by rfl, ?ytm_1⟩) (by assumption) ?rtm_1
      case ytm_1 => (intro w hSw; (try dsimp only at hSw); go_simp; (try with_reducible rfl))
      (try simp only [Act.put, List.setIfInBounds_toArray, List.set_cons_zero, List.set_cons_succ])
      refine wpAnyH_take (i := 2) (oi := { dst := some 101, op := Go.Op.binOp Go.BinOp.eql 3 (Go.Operand.tmp 100) (Go.Operand.const (Go.Value.int Go.IntKind.i64 1)) 3, type := 4, pos := "more.go:52", after := #[{ on := 1, ground := Go.Ground.data }], guard := none }) (v := ?vtm_2) rfl (by kernel_rfl) (by kernel_rfl) (by kernel_rfl) (fun _ _ _ h => h) (Or.inl ⟨by rfl, ?ytm_2⟩) (by assumption) ?rtm_2
      case ytm_2 => (intro w hSw; (try dsimp only at hSw); go_simp; (try with_reducible rfl))
      (try simp only [Act.put, List.setIfInBounds_toArray, List.set_cons_zero, List.set_cons_succ])
      refine wpAnyH_take (i := 3) (oi := { dst := some 102, op := Go.Op.move (Go.Operand.tmp 101), type := 4, pos := "more.go:52", after := #[{ on := 2, ground := Go.Ground.data }], guard := none }) (v := ?vtm_3) rfl (by kernel_rfl) (by kernel_rfl) (by kernel_rfl) (fun _ _ _ h => h) (Or.inl ⟨by rfl, ?ytm_3⟩) (by assumption) ?rtm_3
      case ytm_3 => (intro w hSw; (try dsimp only at hSw); go_simp; (try with_reducible rfl))
      (try simp only [Act.put, List.setIfInBounds_toArray, List.set_cons_zero, List.set_cons_succ])
      refine wpAnyH_take (i := 4) (oi := { dst := some 103, op := Go.Op.fieldAddr 28 (Go.Operand.tmp 8) 3, type := 0, pos := "more.go:52", after := #[{ on := 3, ground := Go.Ground.guard }], guard := some (3, true) }) (v := ?vtm_4) rfl (by kernel_rfl) (by kernel_rfl) (by kernel_rfl) (fun _ _ _ h => h) (Or.inl ⟨by rfl, ?ytm_4⟩) (by assumption) ?rtm_4
      case ytm_4 => (intro w hSw; (try dsimp only at hSw); go_simp; (try with_reducible rfl))
      (try simp only [Act.put, List.setIfInBounds_toArray, List.set_cons_zero, List.set_cons_succ])
      refine wpAnyH_take (i := 5) (oi := { dst := some 104, op := Go.Op.load 26 (Go.Operand.tmp 103), type := 26, pos := "more.go:52", after := #[{ on := 4, ground := Go.Ground.data }, { on := 3, ground := Go.Ground.guard }], guard := some (3, true) }) (v := ?vtm_5) rfl (by kernel_rfl) (by kernel_rfl) (by kernel_rfl) (fun _ _ _ h => h) (Or.inl ⟨by rfl, ?ytm_5⟩) (by assumption) ?rtm_5
      case ytm_5 => (intro w hSw; (try dsimp only at hSw); go_simp; (try with_reducible rfl))
      (try simp only [Act.put, List.setIfInBounds_toArray, List.set_cons_zero, List.set_cons_succ])
      refine wpAnyH_take (i := 6) (oi := { dst := some 105, op := Go.Op.move (Go.Operand.tmp 6), type := 24, pos := "more.go:52", after := #[{ on := 3, ground := Go.Ground.guard }], guard := some (3, true) }) (v := ?vtm_6) rfl (by kernel_rfl) (by kernel_rfl) (by kernel_rfl) (fun _ _ _ h => h) (Or.inl ⟨by rfl, ?ytm_6⟩) (by assumption) ?rtm_6
      case ytm_6 => (intro w hSw; (try dsimp only at hSw); go_simp; (try with_reducible rfl))
      (try simp only [Act.put, List.setIfInBounds_toArray, List.set_cons_zero, List.set_cons_succ])
      refine wpAnyH_take (i := 7) (oi := { dst := some 106, op := Go.Op.indexAddr 24 (Go.Operand.tmp 105) (Go.Operand.const (Go.Value.int Go.IntKind.i64 0)), type := 0, pos := "more.go:52", after := #[{ on := 6, ground := Go.Ground.data }, { on := 3, ground := Go.Ground.guard }], guard := some (3, true) }) (v := ?vtm_7) rfl (by kernel_rfl) (by kernel_rfl) (by kernel_rfl) (fun _ _ _ h => h) (Or.inl ⟨by rfl, ?ytm_7⟩) (by assumption) ?rtm_7
      case ytm_7 => (intro w hSw; (try dsimp only at hSw); go_simp; (try with_reducible rfl))
      (try simp only [Act.put, List.setIfInBounds_toArray, List.set_cons_zero, List.set_cons_succ])
      refine wpAnyH_take (i := 8) (oi := { dst := some 107, op := Go.Op.load 26 (Go.Operand.tmp 106), type := 26, pos := "more.go:52", after := #[{ on := 7, ground := Go.Ground.data }, { on := 3, ground := Go.Ground.guard }], guard := some (3, true) }) (v := ?vtm_8) rfl (by kernel_rfl) (by kernel_rfl) (by kernel_rfl) (fun _ _ _ h => h) (Or.inl ⟨by rfl, ?ytm_8⟩) (by assumption) ?rtm_8
      case ytm_8 => (intro w hSw; (try dsimp only at hSw); go_simp; (try with_reducible rfl))
      (try simp only [Act.put, List.setIfInBounds_toArray, List.set_cons_zero, List.set_cons_succ])
      refine wpAnyH_take (i := 9) (oi := { dst := some 108, op := Go.Op.binOp Go.BinOp.eql 26 (Go.Operand.tmp 104) (Go.Operand.tmp 107) 26, type := 4, pos := "more.go:52", after := #[{ on := 5, ground := Go.Ground.data }, { on := 8, ground := Go.Ground.data }, { on := 3, ground := Go.Ground.guard }], guard := some (3, true) }) (v := ?vtm_9) rfl (by kernel_rfl) (by kernel_rfl) (by kernel_rfl) (fun _ _ _ h => h) (Or.inl ⟨by rfl, ?ytm_9⟩) (by assumption) ?rtm_9
      case ytm_9 => (intro w hSw; (try dsimp only at hSw); go_simp; (try with_reducible rfl))
      (try simp only [Act.put, List.setIfInBounds_toArray, List.set_cons_zero, List.set_cons_succ])
      refine wpAnyH_take (i := 10) (oi := { dst := some 109, op := Go.Op.pick (Go.Operand.tmp 102) (Go.Operand.tmp 108) (Go.Operand.const (Go.Value.bool false)), type := 4, pos := "more.go:52", after := #[{ on := 3, ground := Go.Ground.data }, { on := 9, ground := Go.Ground.data }], guard := none }) (v := ?vtm_10) rfl (by kernel_rfl) (by kernel_rfl) (by kernel_rfl) (fun _ _ _ h => h) (Or.inl ⟨by rfl, ?ytm_10⟩) (by assumption) ?rtm_10
      case ytm_10 => (intro w hSw; (try dsimp only at hSw); go_simp; (try with_reducible rfl))
      (try simp only [Act.put, List.setIfInBounds_toArray, List.set_cons_zero, List.set_cons_succ])
      refine wpAnyH_take (i := 11) (oi := { dst := some 110, op := Go.Op.move (Go.Operand.tmp 109), type := 4, pos := "more.go:52", after := #[{ on := 10, ground := Go.Ground.data }, { on := 3, ground := Go.Ground.chain }], guard := none }) (v := ?vtm_11) rfl (by kernel_rfl) (by kernel_rfl) (by kernel_rfl) (fun _ _ _ h => h) (Or.inl ⟨by rfl, ?ytm_11⟩) (by assumption) ?rtm_11
      case ytm_11 => (intro w hSw; (try dsimp only at hSw); go_simp; (try with_reducible rfl))
      (try simp only [Act.put, List.setIfInBounds_toArray, List.set_cons_zero, List.set_cons_succ])
      refine wpAnyH_take (i := 12) (oi := { dst := some 111, op := Go.Op.fieldAddr 28 (Go.Operand.tmp 9) 6, type := 0, pos := "more.go:52", after := #[{ on := 11, ground := Go.Ground.guard }], guard := some (11, true) }) (v := ?vtm_12) rfl (by kernel_rfl) (by kernel_rfl) (by kernel_rfl) (fun _ _ _ h => h) (Or.inl ⟨by rfl, ?ytm_12⟩) (by assumption) ?rtm_12
      case ytm_12 => (intro w hSw; (try dsimp only at hSw); go_simp; (try with_reducible rfl))
      (try simp only [Act.put, List.setIfInBounds_toArray, List.set_cons_zero, List.set_cons_succ])
      refine wpAnyH_take (i := 13) (oi := { dst := some 112, op := Go.Op.load 3 (Go.Operand.tmp 111), type := 3, pos := "more.go:52", after := #[{ on := 12, ground := Go.Ground.data }, { on := 11, ground := Go.Ground.guard }], guard := some (11, true) }) (v := ?vtm_13) rfl (by kernel_rfl) (by kernel_rfl) (by kernel_rfl) (fun _ _ _ h => h) (Or.inl ⟨by rfl, ?ytm_13⟩) (by assumption) ?rtm_13
      case ytm_13 => (intro w hSw; (try dsimp only at hSw); go_simp; (try with_reducible rfl))
      (try simp only [Act.put, List.setIfInBounds_toArray, List.set_cons_zero, List.set_cons_succ])
      refine wpAnyH_take (i := 14) (oi := { dst := some 113, op := Go.Op.binOp Go.BinOp.eql 3 (Go.Operand.tmp 112) (Go.Operand.const (Go.Value.int Go.IntKind.i64 1)) 3, type := 4, pos := "more.go:52", after := #[{ on := 13, ground := Go.Ground.data }, { on := 11, ground := Go.Ground.guard }], guard := some (11, true) }) (v := ?vtm_14) rfl (by kernel_rfl) (by kernel_rfl) (by kernel_rfl) (fun _ _ _ h => h) (Or.inl ⟨by rfl, ?ytm_14⟩) (by assumption) ?rtm_14
      case ytm_14 => (intro w hSw; (try dsimp only at hSw); go_simp; (try with_reducible rfl))
      (try simp only [Act.put, List.setIfInBounds_toArray, List.set_cons_zero, List.set_cons_succ])
      refine wpAnyH_take (i := 15) (oi := { dst := some 114, op := Go.Op.pick (Go.Operand.tmp 110) (Go.Operand.tmp 113) (Go.Operand.const (Go.Value.bool false)), type := 4, pos := "more.go:52", after := #[{ on := 11, ground := Go.Ground.data }, { on := 14, ground := Go.Ground.data }], guard := none }) (v := ?vtm_15) rfl (by kernel_rfl) (by kernel_rfl) (by kernel_rfl) (fun _ _ _ h => h) (Or.inl ⟨by rfl, ?ytm_15⟩) (by assumption) ?rtm_15
      case ytm_15 => (intro w hSw; (try dsimp only at hSw); go_simp; (try with_reducible rfl))
      (try simp only [Act.put, List.setIfInBounds_toArray, List.set_cons_zero, List.set_cons_succ])
      refine wpAnyH_take (i := 16) (oi := { dst := some 115, op := Go.Op.move (Go.Operand.tmp 114), type := 4, pos := "more.go:52", after := #[{ on := 15, ground := Go.Ground.data }, { on := 11, ground := Go.Ground.chain }], guard := none }) (v := ?vtm_16) rfl (by kernel_rfl) (by kernel_rfl) (by kernel_rfl) (fun _ _ _ h => h) (Or.inl ⟨by rfl, ?ytm_16⟩) (by assumption) ?rtm_16
      case ytm_16 => (intro w hSw; (try dsimp only at hSw); go_simp; (try with_reducible rfl))
      (try simp only [Act.put, List.setIfInBounds_toArray, List.set_cons_zero, List.set_cons_succ])
      refine wpAnyH_take (i := 17) (oi := { dst := some 116, op := Go.Op.fieldAddr 28 (Go.Operand.tmp 9) 3, type := 0, pos := "more.go:52", after := #[{ on := 16, ground := Go.Ground.guard }], guard := some (16, true) }) (v := ?vtm_17) rfl (by kernel_rfl) (by kernel_rfl) (by kernel_rfl) (fun _ _ _ h => h) (Or.inl ⟨by rfl, ?ytm_17⟩) (by assumption) ?rtm_17
      case ytm_17 => (intro w hSw; (try dsimp only at hSw); go_simp; (try with_reducible rfl))
      (try simp only [Act.put, List.setIfInBounds_toArray, List.set_cons_zero, List.set_cons_succ])
      refine wpAnyH_take (i := 18) (oi := { dst := some 117, op := Go.Op.load 26 (Go.Operand.tmp 116), type := 26, pos := "more.go:52", after := #[{ on := 17, ground := Go.Ground.data }, { on := 16, ground := Go.Ground.guard }], guard := some (16, true) }) (v := ?vtm_18) rfl (by kernel_rfl) (by kernel_rfl) (by kernel_rfl) (fun _ _ _ h => h) (Or.inl ⟨by rfl, ?ytm_18⟩) (by assumption) ?rtm_18
      case ytm_18 => (intro w hSw; (try dsimp only at hSw); go_simp; (try with_reducible rfl))
      (try simp only [Act.put, List.setIfInBounds_toArray, List.set_cons_zero, List.set_cons_succ])
      refine wpAnyH_take (i := 19) (oi := { dst := some 118, op := Go.Op.move (Go.Operand.tmp 6), type := 24, pos := "more.go:52", after := #[{ on := 16, ground := Go.Ground.guard }], guard := some (16, true) }) (v := ?vtm_19) rfl (by kernel_rfl) (by kernel_rfl) (by kernel_rfl) (fun _ _ _ h => h) (Or.inl ⟨by rfl, ?ytm_19⟩) (by assumption) ?rtm_19
      case ytm_19 => (intro w hSw; (try dsimp only at hSw); go_simp; (try with_reducible rfl))
      (try simp only [Act.put, List.setIfInBounds_toArray, List.set_cons_zero, List.set_cons_succ])
      refine wpAnyH_take (i := 20) (oi := { dst := some 119, op := Go.Op.indexAddr 24 (Go.Operand.tmp 118) (Go.Operand.const (Go.Value.int Go.IntKind.i64 1)), type := 0, pos := "more.go:52", after := #[{ on := 19, ground := Go.Ground.data }, { on := 16, ground := Go.Ground.guard }], guard := some (16, true) }) (v := ?vtm_20) rfl (by kernel_rfl) (by kernel_rfl) (by kernel_rfl) (fun _ _ _ h => h) (Or.inl ⟨by rfl, ?ytm_20⟩) (by assumption) ?rtm_20
      case ytm_20 => (intro w hSw; (try dsimp only at hSw); go_simp; (try with_reducible rfl))
      (try simp only [Act.put, List.setIfInBounds_toArray, List.set_cons_zero, List.set_cons_succ])
      refine wpAnyH_take (i := 21) (oi := { dst := some 120, op := Go.Op.load 26 (Go.Operand.tmp 119), type := 26, pos := "more.go:52", after := #[{ on := 20, ground := Go.Ground.data }, { on := 16, ground := Go.Ground.guard }], guard := some (16, true) }) (v := ?vtm_21) rfl (by kernel_rfl) (by kernel_rfl) (by kernel_rfl) (fun _ _ _ h => h) (Or.inl ⟨by rfl, ?ytm_21⟩) (by assumption) ?rtm_21
      case ytm_21 => (intro w hSw; (try dsimp only at hSw); go_simp; (try with_reducible rfl))
      (try simp only [Act.put, List.setIfInBounds_toArray, List.set_cons_zero, List.set_cons_succ])
      refine wpAnyH_take (i := 22) (oi := { dst := some 121, op := Go.Op.binOp Go.BinOp.eql 26 (Go.Operand.tmp 117) (Go.Operand.tmp 120) 26, type := 4, pos := "more.go:52", after := #[{ on := 18, ground := Go.Ground.data }, { on := 21, ground := Go.Ground.data }, { on := 16, ground := Go.Ground.guard }], guard := some (16, true) }) (v := ?vtm_22) rfl (by kernel_rfl) (by kernel_rfl) (by kernel_rfl) (fun _ _ _ h => h) (Or.inl ⟨by rfl, ?ytm_22⟩) (by assumption) ?rtm_22
      case ytm_22 => (intro w hSw; (try dsimp only at hSw); go_simp; (try with_reducible rfl))
      (try simp only [Act.put, List.setIfInBounds_toArray, List.set_cons_zero, List.set_cons_succ])
      refine wpAnyH_take (i := 23) (oi := { dst := some 122, op := Go.Op.pick (Go.Operand.tmp 115) (Go.Operand.tmp 121) (Go.Operand.const (Go.Value.bool false)), type := 4, pos := "more.go:52", after := #[{ on := 16, ground := Go.Ground.data }, { on := 22, ground := Go.Ground.data }], guard := none }) (v := ?vtm_23) rfl (by kernel_rfl) (by kernel_rfl) (by kernel_rfl) (fun _ _ _ h => h) (Or.inl ⟨by rfl, ?ytm_23⟩) (by assumption) ?rtm_23
      case ytm_23 => (intro w hSw; (try dsimp only at hSw); go_simp; (try with_reducible rfl))
      (try simp only [Act.put, List.setIfInBounds_toArray, List.set_cons_zero, List.set_cons_succ])
      refine wpAnyH_take (i := 24) (oi := { dst := some 123, op := Go.Op.move (Go.Operand.tmp 122), type := 4, pos := "more.go:52", after := #[{ on := 23, ground := Go.Ground.data }, { on := 16, ground := Go.Ground.chain }], guard := none }) (v := ?vtm_24) rfl (by kernel_rfl) (by kernel_rfl) (by kernel_rfl) (fun _ _ _ h => h) (Or.inl ⟨by rfl, ?ytm_24⟩) (by assumption) ?rtm_24
      case ytm_24 => (intro w hSw; (try dsimp only at hSw); go_simp; (try with_reducible rfl))
      (try simp only [Act.put, List.setIfInBounds_toArray, List.set_cons_zero, List.set_cons_succ])
      refine wpAnyH_take (i := 25) (oi := { dst := some 124, op := Go.Op.load 23 (Go.Operand.tmp 2), type := 23, pos := "more.go:52", after := #[{ on := 24, ground := Go.Ground.guard }], guard := some (24, true) }) (v := ?vtm_25) rfl (by kernel_rfl) (by kernel_rfl) (by kernel_rfl) (fun _ _ _ h => h) (Or.inl ⟨by rfl, ?ytm_25⟩) (by assumption) ?rtm_25
      case ytm_25 => (intro w hSw; (try dsimp only at hSw); go_simp; (try with_reducible rfl))
      (try simp only [Act.put, List.setIfInBounds_toArray, List.set_cons_zero, List.set_cons_succ])
      refine wpAnyH_take (i := 26) (oi := { dst := some 125, op := Go.Op.move (Go.Operand.tmp 10), type := 25, pos := "more.go:52", after := #[{ on := 24, ground := Go.Ground.guard }], guard := some (24, true) }) (v := ?vtm_26) rfl (by kernel_rfl) (by kernel_rfl) (by kernel_rfl) (fun _ _ _ h => h) (Or.inl ⟨by rfl, ?ytm_26⟩) (by assumption) ?rtm_26
      case ytm_26 => (intro w hSw; (try dsimp only at hSw); go_simp; (try with_reducible rfl))
      (try simp only [Act.put, List.setIfInBounds_toArray, List.set_cons_zero, List.set_cons_succ])
      refine wpAnyH_take (i := 28) (oi := { dst := some 127, op := Go.Op.move (Go.Operand.tmp 6), type := 24, pos := "more.go:52", after := #[{ on := 24, ground := Go.Ground.guard }], guard := some (24, true) }) (v := ?vtm_28) rfl (by kernel_rfl) (by kernel_rfl) (by kernel_rfl) (fun _ _ _ h => h) (Or.inl ⟨by rfl, ?ytm_28⟩) (by assumption) ?rtm_28
      case ytm_28 => (intro w hSw; (try dsimp only at hSw); go_simp; (try with_reducible rfl))
      (try simp only [Act.put, List.setIfInBounds_toArray, List.set_cons_zero, List.set_cons_succ])
      refine wpAnyH_take (i := 29) (oi := { dst := some 128, op := Go.Op.call { callee := Go.Callee.builtin Go.Builtin.len, args := #[Go.Operand.tmp 127], argTypes := #[24] }, type := 3, pos := "more.go:52", after := #[{ on := 28, ground := Go.Ground.data }, { on := 24, ground := Go.Ground.guard }], guard := some (24, true) }) (v := ?vtm_29) rfl (by kernel_rfl) (by kernel_rfl) (by kernel_rfl) (fun _ _ _ h => h) (Or.inl ⟨by rfl, ?ytm_29⟩) (by assumption) ?rtm_29
      case ytm_29 => (intro w hSw; (try dsimp only at hSw); go_simp; (try with_reducible rfl))
      (try simp only [Act.put, List.setIfInBounds_toArray, List.set_cons_zero, List.set_cons_succ])
      refine wpAnyH_take (i := 30) (oi := { dst := some 129, op := Go.Op.binOp Go.BinOp.sub 3 (Go.Operand.tmp 128) (Go.Operand.const (Go.Value.int Go.IntKind.i64 2)) 3, type := 3, pos := "more.go:52", after := #[{ on := 29, ground := Go.Ground.data }, { on := 24, ground := Go.Ground.guard }], guard := some (24, true) }) (v := ?vtm_30) rfl (by kernel_rfl) (by kernel_rfl) (by kernel_rfl) (fun _ _ _ h => h) (Or.inl ⟨by rfl, ?ytm_30⟩) (by assumption) ?rtm_30
      case ytm_30 => (intro w hSw; (try dsimp only at hSw); go_simp; (try with_reducible rfl))
      (try simp only [Act.put, List.setIfInBounds_toArray, List.set_cons_zero, List.set_cons_succ])
      refine wpAnyH_ready (rs := [27]) (by kernel_rfl) (by simp) ?_
      refine AllReadyH.cons (o := { dst := some 126, op := Go.Op.call { callee := Go.Callee.value (Go.Operand.func 21), args := #[Go.Operand.tmp 124, Go.Operand.tmp 125], argTypes := #[23, 25] }, type := 3, pos := "more.go:52", after := #[{ on := 25, ground := Go.Ground.data }, { on := 26, ground := Go.Ground.data }, { on := 24, ground := Go.Ground.chain }, { on := 24, ground := Go.Ground.guard }], guard := some (24, true) }) rfl (fun K hK => ?_) AllReadyH.nil
      go_simp
      refine (Tells.of (qlen_any W D J S A n c m' _ (LA.out.below (hHeld.2.2.2.2.2.2.2.2.2.2)) HML.out HS.out) (v' := .int .i64 (k2 : Int)) (by rw [HIL.out, HK2.out])).mono ?_
      rintro e w' ⟨rfl, hb⟩
      go_wp2_with fail
      refine hK.out _ _ (held_call HK9.out (fun _ h => h.2.2.2.2.2.2.2.2.2.2) hb hHeld) (fun hHeld2 => ?_)
      clear hK K hHeld
      have hHeld := hHeld2
      clear hHeld2
      (try simp only [Act.put, List.setIfInBounds_toArray, List.set_cons_zero, List.set_cons_succ])
      refine wpAnyH_take (i := 31) (oi := { dst := some 130, op := Go.Op.binOp Go.BinOp.eql 3 (Go.Operand.tmp 126) (Go.Operand.tmp 129) 3, type := 4, pos := "more.go:52", after := #[{ on := 27, ground := Go.Ground.data }, { on := 30, ground := Go.Ground.data }, { on := 24, ground := Go.Ground.guard }], guard := some (24, true) }) (v := ?vtm_31) rfl (by kernel_rfl) (by kernel_rfl) (by kernel_rfl) (fun _ _ _ h => h) (Or.inl ⟨by rfl, ?ytm_31⟩) (by assumption) ?rtm_31
      case ytm_31 => (intro w hSw; (try dsimp only at hSw); go_simp; (try with_reducible rfl))
      (try simp only [Act.put, List.setIfInBounds_toArray, List.set_cons_zero, List.set_cons_succ])
      refine wpAnyH_take (i := 32) (oi := { dst := some 131, op := Go.Op.pick (Go.Operand.tmp 123) (Go.Operand.tmp 130) (Go.Operand.const (Go.Value.bool false)), type := 4, pos := "more.go:52", after := #[{ on := 24, ground := Go.Ground.data }, { on := 31, ground := Go.Ground.data }], guard := none }) (v := ?vtm_32) rfl (by kernel_rfl) (by kernel_rfl) (by kernel_rfl) (fun _ _ _ h => h) (Or.inl ⟨by rfl, ?ytm_32⟩) (by assumption) ?rtm_32
      case ytm_32 => (intro w hSw; (try dsimp only at hSw); go_simp; (try with_reducible rfl))
      (try simp only [Act.put, List.setIfInBounds_toArray, List.set_cons_zero, List.set_cons_succ])
      refine wpAnyH_take (i := 33) (oi := { dst := some 4, op := Go.Op.assign (Go.Operand.tmp 131), type := 4, pos := "more.go:52", after := #[{ on := 32, ground := Go.Ground.data }, { on := 27, ground := Go.Ground.chain }, { on := 0, ground := Go.Ground.phase }, { on := 1, ground := Go.Ground.phase }, { on := 2, ground := Go.Ground.phase }, { on := 3, ground := Go.Ground.phase }, { on := 4, ground := Go.Ground.phase }, { on := 5, ground := Go.Ground.phase }, { on := 6, ground := Go.Ground.phase }, { on := 7, ground := Go.Ground.phase }, { on := 8, ground := Go.Ground.phase }, { on := 9, ground := Go.Ground.phase }, { on := 10, ground := Go.Ground.phase }, { on := 11, ground := Go.Ground.phase }, { on := 12, ground := Go.Ground.phase }, { on := 13, ground := Go.Ground.phase }, { on := 14, ground := Go.Ground.phase }, { on := 15, ground := Go.Ground.phase }, { on := 16, ground := Go.Ground.phase }, { on := 17, ground := Go.Ground.phase }, { on := 18, ground := Go.Ground.phase }, { on := 19, ground := Go.Ground.phase }, { on := 20, ground := Go.Ground.phase }, { on := 21, ground := Go.Ground.phase }, { on := 22, ground := Go.Ground.phase }, { on := 23, ground := Go.Ground.phase }, { on := 24, ground := Go.Ground.phase }, { on := 25, ground := Go.Ground.phase }, { on := 26, ground := Go.Ground.phase }, { on := 27, ground := Go.Ground.phase }, { on := 28, ground := Go.Ground.phase }, { on := 29, ground := Go.Ground.phase }, { on := 30, ground := Go.Ground.phase }, { on := 31, ground := Go.Ground.phase }, { on := 32, ground := Go.Ground.phase }], guard := none }) (v := ?vtm_33) rfl (by kernel_rfl) (by kernel_rfl) (by kernel_rfl) (fun _ _ _ h => h) (Or.inl ⟨by rfl, ?ytm_33⟩) (by assumption) ?rtm_33
      case ytm_33 => (intro w hSw; (try dsimp only at hSw); go_simp; (try with_reducible rfl))
      (try simp only [Act.put, List.setIfInBounds_toArray, List.set_cons_zero, List.set_cons_succ])
      refine wpAnyH_done (by kernel_rfl) ?_ _
      go_wp2
      go_ret
      exact ⟨rfl, Z.out.trans ((hHeld.2.2.2.2.2.2.2.2.2.2).mono Z.out.size)⟩
theorem two_walk (W D J S : Int) (A : Option Addr) (n c : Nat) (m : List Int) (w : World) (hm : Rd w A m) (hn : m.length = n) (hu : UM m) : Tells 7 #[cf W D J S, .slice A n c] w (.bool true) := by
  by_cases hs : n ≤ 500
  · cases ho : ilst W D J S m with
    | none => exact two_none W D J S A n c m w hm hn hs hu ho
    | some l =>
      by_cases h55 : 1152921504606846976 < at0 m 5
      · exact two_tail W D J S A n c m w hm hn hs hu l ho h55
      · by_cases h44 : 1152921504606846976 < at0 m 4
        · exact two_head W D J S A n c m w hm hn hs hu l ho h55 h44
        · rcases l with _ | ⟨u, _ | ⟨u2, l2⟩⟩
          · exact two_nil W D J S A n c m w hm hn hs hu ho h55 h44
          · exact two_one W D J S A n c m w hm hn hs hu u ho h55 h44
          · exact two_more W D J S A n c m w hm hn hs hu u u2 l2 ho h55 h44
  · exact two_big W D J S A n c m w hm hn (by omega)
end Go.Proofs.Ytelelhjgejnpcaa
