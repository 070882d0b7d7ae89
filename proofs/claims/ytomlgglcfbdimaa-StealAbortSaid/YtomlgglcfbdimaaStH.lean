/- Merged: StE, StF. -/
import Derived.Test.YtomlgglcfbdimaaStC
import Derived.Test.YtomlgglcfbdimaaDqA
namespace Go.Proofs.Ytomlgglcfbdimaa
open Go.RowKit Go.Deep
theorem snext_any {lo : Nat} {W D J S : Int} {A : Option Addr} {n c : Nat} {l : List Int} {f : Fr} {w : World} (h : Rn lo w A l) (hn : l.length = n) (hs : n ≤ 500) (hlo : lo ≤ w.heap.size) (hg : goes W D J S l f 2 4 = true) (hf : UF f) :
    Calls Try.prog 30 #[cf W D J S, .slice A n c, fv f] w (RetQ lo w n (stealS W D J S l f).1 (stealS W D J S l f).2) := by
  obtain ⟨hk, hr, ho, h0, h7⟩ := goes_iff.1 hg
  obtain ⟨hm, hlen, hq0, hqW⟩ := okw_iff.1 hk
  obtain ⟨hW, hD, hJ, hS⟩ := may_lim hm
  have hge := bg_ge (J := J) hD.1 hJ.1 hq0
  have hst := bg_step (J := J) hD.1 hqW
  have e0 : ow W D J S f.who 0 = bg D J f.who := by rw [ow_ok hk, Int.add_zero]
  have e1 := ow_ok hk 1
  have e3 := sl_ok hk f.y
  obtain ⟨o, p, q, v, x, y, s⟩ := f
  simp only at *
  unfold stealS
  rw [if_pos hg]
  simp only
  have hp : p = 0 ∨ p = 1 ∨ p = 2 ∨ p = 3 := by omega
  rcases hp with rfl | rfl | rfl | rfl
  · rw [if_pos rfl]
    exact RetQ.of (snext_0 lo W D J S o q v x y s A n c l w h hn hs hlo) rfl (by rw [e0])
  · rw [if_neg (by decide), if_pos rfl]
    by_cases hd : far (at0 l (bg D J q + 1)) y ≤ 0
    · rw [if_pos hd]
      exact RetQ.of (snext_1t lo W D J S o q v x y s A n c l w h hn hs hlo (by rw [e1]; exact decide_eq_true hd)) rfl rfl
    · rw [if_neg hd]
      exact RetQ.of (snext_1f lo W D J S o q v x y s A n c l w h hn hs hlo (by rw [e1]; exact decide_eq_false hd)) rfl (by rw [e1])
  · rw [if_neg (by decide), if_neg (by decide), if_pos rfl]
    exact RetQ.of (snext_2 lo W D J S o q v x y s A n c l w h hn hs hlo hf.2.2) rfl (by rw [e3])
  · rw [if_neg (by decide), if_neg (by decide), if_neg (by decide)]
    have ei : isAt l (ow W D J S q 0) y = decide (at0 l (bg D J q) = y) := by rw [e0]; exact isAt_at0 (by omega) (by omega)
    by_cases hd : at0 l (bg D J q) = y
    · rw [if_pos hd]
      rw [decide_eq_true hd] at ei
      exact RetQ.of (snext_3y lo W D J S o q v x y s A n c l w h hn hs hlo _ ei (by rw [if_pos ei, e0]) (len_put _ _ _)) rfl rfl
    · rw [if_neg hd]
      rw [decide_eq_false hd] at ei
      exact RetQ.of (snext_3n lo W D J S o q v x y s A n c l w h hn hs hlo _ ei (by rw [if_neg (by simp [ei])]) rfl) rfl rfl
/-- Where the outcome is known by letters. -/
theorem snext_n {lo : Nat} {W D J S : Int} {A : Option Addr} {n c : Nat} {l : List Int} {f : Fr} {w : World} (h : Rn lo w A l) (hn : l.length = n) (hs : n ≤ 500) (hlo : lo ≤ w.heap.size) (hg : goes W D J S l f 2 4 = true) (hf : UF f) {l' : List Int} {f' : Fr} (e : stealS W D J S l f = (l', f')) :
    Calls Try.prog 30 #[cf W D J S, .slice A n c, fv f] w (RetQ lo w n l' f') := by
  have h2 := snext_any (c := c) h hn hs hlo hg hf
  rw [e] at h2
  exact h2
theorem ssteps_any (w : World) : Gives 28 #[] w (.int .i64 4) := by
  go_enter Try.func28, Try.ntmps28
  go_wp2
  go_ret
  exact ⟨rfl, rfl⟩
set_option maxHeartbeats 4000000 in
theorem stealc_leave (W D J S : Int) (A : Option Addr) (n c : Nat) (l : List Int) (f : Fr) (w : World) (h : Rd w A l) (hn : l.length = n) (hs : n ≤ 500) (hg : goes W D J S l f 2 4 = false) :
    Calls Try.prog 10 #[cf W D J S, .slice A n c, fv f] w (RetQ w.heap.size w n l f) := by
  obtain ⟨BX, BF, B0, Z, hz⟩ := boxes3 w W D J S f
  have H := Lib.hid (h.below Z); clear h
  have HN := Lib.hid hn; clear hn
  have HS := Lib.hid hs; clear hs
  have HG := Lib.hid hg; clear hg
  obtain ⟨o, p, q, v, x, y, s⟩ := f
  go_enter Try.func10, Try.ntmps10
  go_upto_region 1 with fail
  change Code.wp _ _ _ _ (bx3 w W D J S ⟨o, p, q, v, x, y, s⟩)
  generalize bx3 w W D J S ⟨o, p, q, v, x, y, s⟩ = w0 at BX BF B0 Z hz H ⊢
  go_wp2_with fail
  refine (clone_any A n c l w0 H.out HN.out HS.out).mono ?_
  rintro _ w1 ⟨A1, c1, rfl, hr1, z1⟩
  have HR1 := Lib.hid hr1
  have HZ1 := Lib.hid z1
  have B1 := Lib.hid (B0.after z1)
  obtain ⟨_, b0, b1, b2, b3⟩ := BX.below z1
  obtain ⟨a0, a1, a2, a3, a4, a5, a6⟩ := (BF.after z1).cells
  have la := (BF.after z1).lt
  clear hr1
  go_wp2_with fail
  refine (Tells.of (goes_any W D J S 2 4 A1 n c1 l ⟨o, p, q, v, x, y, s⟩ _ HN.out) (v' := .bool false) (by rw [HG.out])).mono ?_
  rintro _ w3 ⟨rfl, z3⟩
  have HR3 := Lib.hid (HR1.out.below z3)
  have z30 := keep_call z3 HZ1.out
  have B03 := B0.after z30
  clear a0 a1 a2 a3 a4 a5 a6 la b0 b1 b2 b3 z1
  obtain ⟨a0, a1, a2, a3, a4, a5, a6⟩ := (BF.after z30).cells
  have la := (BF.after z30).lt
  obtain ⟨d0, d1, d2, d3, d4, d5, d6⟩ := B03.cells
  have lb := B03.lt
  have fz := B03.free
  have HZ3 := Lib.hid (Z.trans (z30.mono (by omega)))
  have hl2 : w.heap.size ≤ w.heap.size + 1 + 1 := by omega
  have HH2 := Lib.hid (show w.heap.size + 1 + 1 < w0.heap.size by omega)
  have HHZ := Lib.hid (show w.heap.size ≤ w0.heap.size by omega)
  clear hz z3 z30
  go_wp2_with fail
  go_region
  all_goals
    go_wp2
    change bodyPost _ _ _ _ _ (pf w3 (w.heap.size + 1 + 1) ⟨o, p, q, v, x, y, s⟩).drew
    refine bodyPost_ret (results_fr Try.results10 _ rfl ((B03.pf _).drew)) rfl ?_
    exact ⟨A1, c1, rfl, ((HR3.out.pf HH2.out _).drew).mono HHZ.out, (below_pf HZ3.out hl2 _).drew⟩
set_option maxHeartbeats 4000000 in
theorem stealc_goes (W D J S : Int) (A : Option Addr) (n c : Nat) (l : List Int) (f : Fr) (l' : List Int) (f' : Fr) (w : World) (h : Rd w A l) (hn : l.length = n) (hs : n ≤ 500) (hg : goes W D J S l f 2 4 = true) (hf : UF f) (e : stealS W D J S l f = (l', f')) :
    Calls Try.prog 10 #[cf W D J S, .slice A n c, fv f] w (RetQ w.heap.size w n l' f') := by
  obtain ⟨BX, BF, B0, Z, hz⟩ := boxes3 w W D J S f
  have H := Lib.hid (h.below Z); clear h
  have HN := Lib.hid hn; clear hn
  have HS := Lib.hid hs; clear hs
  have HG := Lib.hid hg; clear hg
  have HF := Lib.hid hf; clear hf
  have HE := Lib.hid e; clear e
  obtain ⟨o, p, q, v, x, y, s⟩ := f
  go_enter Try.func10, Try.ntmps10
  go_upto_region 1 with fail
  change Code.wp _ _ _ _ (bx3 w W D J S ⟨o, p, q, v, x, y, s⟩)
  generalize bx3 w W D J S ⟨o, p, q, v, x, y, s⟩ = w0 at BX BF B0 Z hz H ⊢
  go_wp2_with fail
  refine (clone_any A n c l w0 H.out HN.out HS.out).mono ?_
  rintro _ w1 ⟨A1, c1, rfl, hr1, z1⟩
  have HR1 := Lib.hid hr1
  have HZ1 := Lib.hid z1
  obtain ⟨_, b0, b1, b2, b3⟩ := BX.below z1
  have lb := (BX.below z1).1
  obtain ⟨a0, a1, a2, a3, a4, a5, a6⟩ := (BF.after z1).cells
  have la := (BF.after z1).lt
  clear hr1
  go_wp2_with fail
  refine (Tells.of (goes_any W D J S 2 4 A1 n c1 l ⟨o, p, q, v, x, y, s⟩ _ HN.out) (v' := .bool true) (by rw [HG.out])).mono ?_
  rintro _ w3 ⟨rfl, z3⟩
  have HR3 := Lib.hid (HR1.out.below z3)
  have HZ3 := Lib.hid (keep_call z3 HZ1.out)
  clear a0 a1 a2 a3 a4 a5 a6 la b0 b1 b2 b3 lb z1 z3 HR1 HZ1
  obtain ⟨_, b0, b1, b2, b3⟩ := BX.below HZ3.out
  have lb := (BX.below HZ3.out).1
  obtain ⟨a0, a1, a2, a3, a4, a5, a6⟩ := (BF.after HZ3.out).cells
  have la := (BF.after HZ3.out).lt
  go_wp2_with fail
  refine (snext_n (lo := w0.heap.size) HR3.out HN.out HS.out HZ3.out.size HG.out HF.out HE.out).mono ?_
  rintro _ w5 ⟨A5, c5, rfl, hr5, z5⟩
  have HR5 := Lib.hid hr5
  have z50 := keep_call z5 HZ3.out
  have B05 := B0.after z50
  clear a0 a1 a2 a3 a4 a5 a6 la b0 b1 b2 b3 lb hr5 z5
  obtain ⟨d0, d1, d2, d3, d4, d5, d6⟩ := B05.cells
  have ld := B05.lt
  have fz := B05.free
  have HZ5 := Lib.hid (Z.trans (z50.mono (by omega)))
  have hl2 : w.heap.size ≤ w.heap.size + 1 + 1 := by omega
  have HH2 := Lib.hid (show w.heap.size + 1 + 1 < w0.heap.size by omega)
  have HHZ := Lib.hid (show w.heap.size ≤ w0.heap.size by omega)
  clear hz z50
  go_wp2
  change bodyPost _ _ _ _ _ (pf w5 (w.heap.size + 1 + 1) f')
  refine bodyPost_ret (results_fr Try.results10 _ rfl (B05.pf _)) rfl ?_
  exact ⟨A5, c5, rfl, (HR5.out.pf HH2.out _).mono HHZ.out, below_pf HZ5.out hl2 _⟩
/-- A step, where the outcome is known. -/
theorem steal_n {W D J S : Int} {A : Option Addr} {n c : Nat} {l : List Int} {f : Fr} {w : World} (h : Rd w A l) (hn : l.length = n) (hs : n ≤ 500) (hf : UF f) {l' : List Int} {f' : Fr} (e : stealS W D J S l f = (l', f')) :
    Calls Try.prog 10 #[cf W D J S, .slice A n c, fv f] w fun e w' => ∃ A' c', e = .returned (.tuple #[.slice A' n c', fv f']) ∧ Rn w.heap.size w' A' l' ∧ Below w.heap.size w w' := by
  cases hg : goes W D J S l f 2 4
  · have e2 : stealS W D J S l f = (l, f) := by unfold stealS; rw [hg]; rfl
    rw [e2] at e
    injection e with e1 e2
    rw [← e1, ← e2]
    exact stealc_leave W D J S A n c l f w h hn hs hg
  · exact stealc_goes W D J S A n c l f l' f' w h hn hs hg hf e
theorem stealN_len (W D J S : Int) (k : Nat) (s : List Int × Fr) : (itN (stealS W D J S) k s).1.length = s.1.length := by
  induction k with
  | zero => rfl
  | succ k ih => exact (stealS_len _ _ _ _ _ _).trans ih
theorem stealN_U {W D J S : Int} {s : List Int × Fr} (hm : UM s.1) (hf : UF s.2) (k : Nat) : UM (itN (stealS W D J S) k s).1 ∧ UF (itN (stealS W D J S) k s).2 :=
  itN_inv (g := stealS W D J S) (P := fun m f => UM m ∧ UF f) (fun _ _ h => stealS_U h.1 h.2) ⟨hm, hf⟩ k
/-- Some, where the list is known. -/
theorem some_n {W D J S x : Int} {A : Option Addr} {n c : Nat} {m : List Int} {w : World} (h : Rd w A m) (hn : m.length = n) {o : Option (List Int)} (e : lst W D J S m x = o) {k : Nat} (hk : (o.getD []).length = k) {b : Bool} (hb : decide ((0 : Int) < (k : Int)) = b) :
    Tells 14 #[cf W D J S, .slice A n c, .int .i64 x] w (.bool b) := by
  have BX0 := Bx.mk w W D J S 23
  have H := Lib.hid (h.alloc (.cells #[.int .i64 W, .int .i64 D, .int .i64 J, .int .i64 S] 23))
  have HN := Lib.hid hn
  have HE := Lib.hid e
  have HK := Lib.hid hk
  have HB := Lib.hid hb
  have Z0 := Lib.hid (box_below w (.cells #[.int .i64 W, .int .i64 D, .int .i64 J, .int .i64 S] 23))
  clear h hn e hk hb
  go_enter Try.func14, Try.ntmps14
  go_upto_region 1 with fail
  change Code.wp _ _ _ _ (w.alloc (.cells #[.int .i64 W, .int .i64 D, .int .i64 J, .int .i64 S] 23))
  generalize w.alloc (.cells #[.int .i64 W, .int .i64 D, .int .i64 J, .int .i64 S] 23) = w0 at BX0 H Z0 ⊢
  obtain ⟨lx, b0, b1, b2, b3⟩ := BX0
  go_wp2_with fail
  refine (list_n H.out HN.out HE.out HK.out rfl).mono ?_
  rintro _ w1 ⟨A1, c1, rfl, _, _, z⟩
  have Z := Lib.hid (Z0.out.trans (z.mono Z0.out.size))
  clear z b0 b1 b2 b3 lx
  have hd : decide (0 < k) = b := by rw [← HB.out]; simp
  go_wp2
  go_ret
  exact ⟨rfl, Z.out⟩
end Go.Proofs.Ytomlgglcfbdimaa
namespace Go.Proofs.Ytomlgglcfbdimaa
open Go.RowKit Go.Deep
/-- The cells of the chapter's example. -/
def ex13 : List Int := List.replicate 13 0
theorem es2 : itN (stealS 1 2 1 0) 2 (ex13, fbg 2 0 0) = (ex13, ⟨2, 0, 0, 0, 0, 0, 3⟩) :=
  Prod.ext (by decide +kernel) (fr_ext (by decide +kernel) (by decide +kernel) (by decide +kernel) (by decide +kernel) (by decide +kernel) (by decide +kernel) (by decide +kernel))
theorem esl : lst 1 2 1 0 ex13 0 = some [] := by decide +kernel
theorem esb : ow 1 2 1 0 0 1 = 9 := by decide +kernel
theorem esl1 : lst 1 2 1 0 (put ex13 9 1) 0 = some [0] := by decide +kernel
theorem es_len (k : Nat) : (itN (stealS 1 2 1 0) k (ex13, fbg 2 0 0)).1.length = 13 := stealN_len _ _ _ _ _ _
theorem es_U (k : Nat) : UF (itN (stealS 1 2 1 0) k (ex13, fbg 2 0 0)).2 := (stealN_U (s := (ex13, fbg 2 0 0)) (fun u hu => by rw [List.eq_of_mem_replicate hu]; exact U0) ⟨U0, U0, U0⟩ k).2
theorem awake_any (w : World) : Tells 9 #[] w (.bool true) := by
  go_enter Try.func9, Try.ntmps9
  go_wp2_with fail
  refine (new_at 1 2 1 0 13 _ (by rfl) (by omega)).mono ?_
  rintro _ w1 ⟨A1, c1, rfl, hr, z⟩
  have BX := Lib.hid ((Bx.mk w 1 2 1 0 23).below z)
  have Z := Lib.hid ((box_below w _).trans (z.mono (by simp)))
  have LM := Lib.hid hr
  clear z hr
  go_wp2_with fail
  refine (begin_any 2 0 0 _).mono ?_
  rintro _ w2 ⟨rfl, z⟩
  replace BX := Lib.hid (BX.out.below z)
  replace Z := Lib.hid (Z.out.trans (z.mono Z.out.size))
  replace LM := Lib.hid (LM.out.below z)
  clear z
  obtain ⟨ws, hws⟩ : ∃ ws, ws = w2.alloc (.cells #[.int .i64 2, .int .i64 0, .int .i64 0, .int .u64 0, .int .u64 0, .int .u64 0, .int .i64 0] 28) := ⟨_, rfl⟩
  have BF := Lib.hid (show Bf ws w2.heap.size (fbg 2 0 0) by rw [hws]; exact Bf.new w2 (fbg 2 0 0))
  have hz := box_below w2 (.cells #[.int .i64 2, .int .i64 0, .int .i64 0, .int .u64 0, .int .u64 0, .int .u64 0, .int .i64 0] 28)
  rw [← hws] at hz
  have BX2 := Lib.hid (BX.out.below hz)
  have LM2 := Lib.hid (LM.out.below hz)
  have HG := Lib.hid BX.out.1
  have HW := Lib.hid hws
  clear hz hws
  have HBB := Lib.hid BF.out.lt
  clear BX LM
  go_wp2
  go_loopw [4, 2] (fun i s wr => ∃ (j : Nat) (A : Option Addr) (c : Nat), i = .int .i64 j ∧ s = .slice A 13 c ∧ j ≤ 2 ∧ Hid (Rd wr A (itN (stealS 1 2 1 0) j (ex13, fbg 2 0 0)).1) ∧ Hid (Bf wr w2.heap.size (itN (stealS 1 2 1 0) j (ex13, fbg 2 0 0)).2) ∧ Hid (Kb w2.heap.size ws wr)) (fun i _ _ => 2 - (intOf i).toNat)
  case atStart =>
    obtain rfl := HW.out
    exact ⟨0, A1, c1, rfl, rfl, by omega, LM2, BF, Lib.hid (Kb.refl _ _)⟩
  case round =>
    clear BF
    obtain ⟨j, A, c, rfl, rfl, hj, LA, BF, KB⟩ := hrel
    by_cases hlt : j < 2
    · have HU := Lib.hid (es_U j)
      have HL := Lib.hid (es_len j)
      have HE := Lib.hid (itN_succ (stealS 1 2 1 0) j (ex13, fbg 2 0 0))
      generalize (itN (stealS 1 2 1 0) j (ex13, fbg 2 0 0)).1 = M at *
      generalize (itN (stealS 1 2 1 0) j (ex13, fbg 2 0 0)).2 = F at *
      obtain ⟨M', F', HP⟩ : ∃ M' F', Hid (stealS 1 2 1 0 M F = (M', F')) := ⟨_, _, Lib.hid rfl⟩
      obtain ⟨_, b0, b1, b2, b3⟩ := BX2.out.kb KB.out (Nat.ne_of_lt HG.out)
      obtain ⟨d0, d1, d2, d3, d4, d5, d6⟩ := BF.out.cells
      go_wp2_with fail
      refine (steal_n LA.out HL.out (by omega) HU.out HP.out).mono ?_
      rintro _ w3 ⟨A', c', rfl, hn, z⟩
      have BF3 := BF.out.after z
      clear b0 b1 b2 b3 d0 d1 d2 d3 d4 d5 d6
      obtain ⟨d0, d1, d2, d3, d4, d5, d6⟩ := BF3.cells
      have fz := BF3.free
      have HN := Lib.hid (hn.pf BF.out.lt F')
      have HB3 := Lib.hid (BF3.pf F')
      have HK3 := Lib.hid ((KB.out.call HBB.out z).pf F')
      clear hn BF3
      go_wp2_with fail
      go_roundw
      case rel => exact ⟨j + 1, A', c', by go_num, rfl, by omega, by rw [HE.out, HP.out]; exact Lib.hid HN.out.rd, by rw [HE.out, HP.out]; exact HB3, HK3⟩
      case measure => simp [intOf]; omega
    · obtain rfl : j = 2 := by omega
      rw [es2] at LA BF
      simp only at LA BF
      have BX3 := Lib.hid (BX2.out.kb KB.out (Nat.ne_of_lt HG.out))
      have Z3 := Lib.hid (Z.out.trans (KB.out.low.mono Z.out.size |> fun h => by rw [HW.out] at h; exact (box_below w2 _).mono (Z.out.size) |>.trans h))
      clear KB HBB HW BX2 LM2 Z
      obtain ⟨_, b0, b1, b2, b3⟩ := BX3.out
      go_wp2_with fail
      refine (Tells.of (bottom_any 1 2 1 0 0 _) (v' := .int .i64 9) (by rw [esb])).mono ?_
      rintro _ w4 ⟨rfl, z⟩
      have BX4 := Lib.hid (BX3.out.below z)
      have BF4 := Lib.hid (BF.out.after z)
      have LA4 := Lib.hid (LA.out.below z)
      have Z4 := Lib.hid (Z3.out.trans (z.mono Z3.out.size))
      clear z b0 b1 b2 b3 BX3 LA BF Z3
      obtain ⟨_, b0, b1, b2, b3⟩ := BX4.out
      go_wp2_with fail
      refine (store_new A 13 c ex13 9 1 _ LA4.out rfl (by omega)).mono ?_
      rintro _ w5 ⟨k, rfl, hk, hb, z⟩
      have BX5 := Lib.hid (BX4.out.below z)
      have BF5 := Lib.hid (BF4.out.after z)
      have LA5 := Lib.hid (LA4.out.below z)
      have LB5 := Lib.hid hb.rd
      have Z5 := Lib.hid (Z4.out.trans (z.mono Z4.out.size))
      clear z b0 b1 b2 b3 BX4 LA4 BF4 Z4 hk hb
      obtain ⟨_, b0, b1, b2, b3⟩ := BX5.out
      obtain ⟨d0, d1, d2, d3, d4, d5, d6⟩ := BF5.out.cells
      simp only at d0 d1 d2 d3 d4 d5 d6
      have lBF := BF5.out.lt
      go_wp2_with fail
      refine (ssteps_any _).mono ?_
      rintro _ _ ⟨rfl, rfl⟩
      go_wp2_with fail
      refine (some_n (k := 0) (b := false) LA5.out rfl esl rfl rfl).mono ?_
      rintro _ w6 ⟨rfl, z⟩
      have BX6 := Lib.hid (BX5.out.below z)
      have LB6 := Lib.hid (LB5.out.below z)
      have Z6 := Lib.hid (Z5.out.trans (z.mono Z5.out.size))
      clear z b0 b1 b2 b3 BX5 LA5 LB5 BF5 Z5 d0 d1 d2 d3 d4 d5 d6 lBF
      obtain ⟨_, b0, b1, b2, b3⟩ := BX6.out
      go_wp2_with fail
      refine (some_n (k := 1) (b := true) LB6.out (len_put _ _ _) esl1 rfl rfl).mono ?_
      rintro _ w7 ⟨rfl, z⟩
      have Z7 := Lib.hid (Z6.out.trans (z.mono Z6.out.size))
      clear z b0 b1 b2 b3 BX6
      go_wp2
      go_ret
      exact ⟨rfl, Z7.out⟩
end Go.Proofs.Ytomlgglcfbdimaa
