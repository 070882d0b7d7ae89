/- Contract of a steal's Step: as on lists. -/
import Derived.Test.YtpeaahihjeplmaaStC
import Derived.Test.YtpeaahihjeplmaaDqA
namespace Go.Proofs.Ytpeaahihjeplmaa
open Go.RowKit Go.Deep
set_option maxRecDepth 100000 in
theorem snext_any {lo : Nat} {W D J S : Int} {A : Option Addr} {n c : Nat} {l : List Int} {f : Fr} {w : World} (h : Rn lo w A l) (hn : l.length = n) (hs : n ≤ 500) (hlo : lo ≤ w.heap.size) (hg : goes W D J S l f 2 4 = true) (hf : UF f) :
    Calls Try.prog 58 #[cf W D J S, .slice A n c, fv f] w (RetQ lo w n (stealS W D J S l f).1 (stealS W D J S l f).2) := by
  obtain ⟨hk, hr, ho, h0, h7⟩ := goes_iff.1 hg
  obtain ⟨hm, hlen, hq0, hqW⟩ := okw_iff.1 hk
  obtain ⟨hW, hD, hJ, hS⟩ := may_lim hm
  have hge := bg_ge (J := J) hD.1 hJ.1 hq0
  have hst := bg_step (J := J) hD.1 hqW
  have e0 : ow W D J S f.who 0 = bg D J f.who := by rw [ow_ok hk, Int.add_zero]
  have e1 := ow_ok hk 1
  have e3 := sl_ok hk f.y
  obtain ⟨o, p, q, v, x, y, s⟩ := f
  simp only at *
  unfold stealS
  rw [if_pos hg]
  simp only
  have hp : p = 0 ∨ p = 1 ∨ p = 2 ∨ p = 3 := by omega
  rcases hp with rfl | rfl | rfl | rfl
  · rw [if_pos rfl]
    exact RetQ.of (snext_0 lo W D J S o q v x y s A n c l w h hn hs hlo) rfl (by rw [e0])
  · rw [if_neg (by decide), if_pos rfl]
    by_cases hd : far (at0 l (bg D J q + 1)) y ≤ 0
    · rw [if_pos hd]
      exact RetQ.of (snext_1t lo W D J S o q v x y s A n c l w h hn hs hlo (by rw [e1]; exact decide_eq_true hd)) rfl rfl
    · rw [if_neg hd]
      exact RetQ.of (snext_1f lo W D J S o q v x y s A n c l w h hn hs hlo (by rw [e1]; exact decide_eq_false hd)) rfl (by rw [e1])
  · rw [if_neg (by decide), if_neg (by decide), if_pos rfl]
    exact RetQ.of (snext_2 lo W D J S o q v x y s A n c l w h hn hs hlo hf.2.2) rfl (by rw [e3])
  · rw [if_neg (by decide), if_neg (by decide), if_neg (by decide)]
    have ei : isAt l (ow W D J S q 0) y = decide (at0 l (bg D J q) = y) := by rw [e0]; exact isAt_at0 (by omega) (by omega)
    by_cases hd : at0 l (bg D J q) = y
    · rw [if_pos hd]
      rw [decide_eq_true hd] at ei
      exact RetQ.of (snext_3y lo W D J S o q v x y s A n c l w h hn hs hlo _ ei (by rw [if_pos ei, e0]) (len_put _ _ _)) rfl rfl
    · rw [if_neg hd]
      rw [decide_eq_false hd] at ei
      exact RetQ.of (snext_3n lo W D J S o q v x y s A n c l w h hn hs hlo _ ei (by rw [if_neg (by simp [ei])]) rfl) rfl rfl
set_option maxRecDepth 100000 in
/-- Where the outcome is known by letters. -/
theorem snext_n {lo : Nat} {W D J S : Int} {A : Option Addr} {n c : Nat} {l : List Int} {f : Fr} {w : World} (h : Rn lo w A l) (hn : l.length = n) (hs : n ≤ 500) (hlo : lo ≤ w.heap.size) (hg : goes W D J S l f 2 4 = true) (hf : UF f) {l' : List Int} {f' : Fr} (e : stealS W D J S l f = (l', f')) :
    Calls Try.prog 58 #[cf W D J S, .slice A n c, fv f] w (RetQ lo w n l' f') := by
  have h2 := snext_any (c := c) h hn hs hlo hg hf
  rw [e] at h2
  exact h2
set_option maxRecDepth 100000 in
set_option maxHeartbeats 4000000 in
theorem stealc_leave (W D J S : Int) (A : Option Addr) (n c : Nat) (l : List Int) (f : Fr) (w : World) (h : Rd w A l) (hn : l.length = n) (hs : n ≤ 500) (hg : goes W D J S l f 2 4 = false) :
    Calls Try.prog 27 #[cf W D J S, .slice A n c, fv f] w (RetQ w.heap.size w n l f) := by
  obtain ⟨BX, BF, B0, Z, hz⟩ := boxes3 w W D J S f
  have H := Lib.hid (h.below Z); clear h
  have HN := Lib.hid hn; clear hn
  have HS := Lib.hid hs; clear hs
  have HG := Lib.hid hg; clear hg
  obtain ⟨o, p, q, v, x, y, s⟩ := f
  go_enter Try.func27, Try.ntmps27
  go_upto_region 1 with fail
  change Code.wp _ _ _ _ (bx3 w W D J S ⟨o, p, q, v, x, y, s⟩)
  generalize bx3 w W D J S ⟨o, p, q, v, x, y, s⟩ = w0 at BX BF B0 Z hz H ⊢
  go_wp2_with fail
  refine (clone_any A n c l w0 H.out HN.out HS.out).mono ?_
  rintro _ w1 ⟨A1, c1, rfl, hr1, z1⟩
  have HR1 := Lib.hid hr1
  have HZ1 := Lib.hid z1
  have B1 := Lib.hid (B0.after z1)
  obtain ⟨_, b0, b1, b2, b3⟩ := BX.below z1
  obtain ⟨a0, a1, a2, a3, a4, a5, a6⟩ := (BF.after z1).cells
  have la := (BF.after z1).lt
  clear hr1
  go_wp2_with fail
  refine (Tells.of (goes_any W D J S 2 4 A1 n c1 l ⟨o, p, q, v, x, y, s⟩ _ HN.out) (v' := .bool false) (by rw [HG.out])).mono ?_
  rintro _ w3 ⟨rfl, z3⟩
  have HR3 := Lib.hid (HR1.out.below z3)
  have z30 := keep_call z3 HZ1.out
  have B03 := B0.after z30
  clear a0 a1 a2 a3 a4 a5 a6 la b0 b1 b2 b3 z1
  obtain ⟨a0, a1, a2, a3, a4, a5, a6⟩ := (BF.after z30).cells
  have la := (BF.after z30).lt
  obtain ⟨d0, d1, d2, d3, d4, d5, d6⟩ := B03.cells
  have lb := B03.lt
  have fz := B03.free
  have HZ3 := Lib.hid (Z.trans (z30.mono (by omega)))
  have hl2 : w.heap.size ≤ w.heap.size + 1 + 1 := by omega
  have HH2 := Lib.hid (show w.heap.size + 1 + 1 < w0.heap.size by omega)
  have HHZ := Lib.hid (show w.heap.size ≤ w0.heap.size by omega)
  clear hz z3 z30
  go_wp2_with fail
  go_region
  all_goals
    go_wp2
    change bodyPost _ _ _ _ _ (pf w3 (w.heap.size + 1 + 1) ⟨o, p, q, v, x, y, s⟩).drew
    refine bodyPost_ret (results_fr Try.results27 _ rfl ((B03.pf _).drew)) rfl ?_
    exact ⟨A1, c1, rfl, ((HR3.out.pf HH2.out _).drew).mono HHZ.out, (below_pf HZ3.out hl2 _).drew⟩
set_option maxRecDepth 100000 in
set_option maxHeartbeats 4000000 in
theorem stealc_goes (W D J S : Int) (A : Option Addr) (n c : Nat) (l : List Int) (f : Fr) (l' : List Int) (f' : Fr) (w : World) (h : Rd w A l) (hn : l.length = n) (hs : n ≤ 500) (hg : goes W D J S l f 2 4 = true) (hf : UF f) (e : stealS W D J S l f = (l', f')) :
    Calls Try.prog 27 #[cf W D J S, .slice A n c, fv f] w (RetQ w.heap.size w n l' f') := by
  obtain ⟨BX, BF, B0, Z, hz⟩ := boxes3 w W D J S f
  have H := Lib.hid (h.below Z); clear h
  have HN := Lib.hid hn; clear hn
  have HS := Lib.hid hs; clear hs
  have HG := Lib.hid hg; clear hg
  have HF := Lib.hid hf; clear hf
  have HE := Lib.hid e; clear e
  obtain ⟨o, p, q, v, x, y, s⟩ := f
  go_enter Try.func27, Try.ntmps27
  go_upto_region 1 with fail
  change Code.wp _ _ _ _ (bx3 w W D J S ⟨o, p, q, v, x, y, s⟩)
  generalize bx3 w W D J S ⟨o, p, q, v, x, y, s⟩ = w0 at BX BF B0 Z hz H ⊢
  go_wp2_with fail
  refine (clone_any A n c l w0 H.out HN.out HS.out).mono ?_
  rintro _ w1 ⟨A1, c1, rfl, hr1, z1⟩
  have HR1 := Lib.hid hr1
  have HZ1 := Lib.hid z1
  obtain ⟨_, b0, b1, b2, b3⟩ := BX.below z1
  have lb := (BX.below z1).1
  obtain ⟨a0, a1, a2, a3, a4, a5, a6⟩ := (BF.after z1).cells
  have la := (BF.after z1).lt
  clear hr1
  go_wp2_with fail
  refine (Tells.of (goes_any W D J S 2 4 A1 n c1 l ⟨o, p, q, v, x, y, s⟩ _ HN.out) (v' := .bool true) (by rw [HG.out])).mono ?_
  rintro _ w3 ⟨rfl, z3⟩
  have HR3 := Lib.hid (HR1.out.below z3)
  have HZ3 := Lib.hid (keep_call z3 HZ1.out)
  clear a0 a1 a2 a3 a4 a5 a6 la b0 b1 b2 b3 lb z1 z3 HR1 HZ1
  obtain ⟨_, b0, b1, b2, b3⟩ := BX.below HZ3.out
  have lb := (BX.below HZ3.out).1
  obtain ⟨a0, a1, a2, a3, a4, a5, a6⟩ := (BF.after HZ3.out).cells
  have la := (BF.after HZ3.out).lt
  go_wp2_with fail
  refine (snext_n (lo := w0.heap.size) HR3.out HN.out HS.out HZ3.out.size HG.out HF.out HE.out).mono ?_
  rintro _ w5 ⟨A5, c5, rfl, hr5, z5⟩
  have HR5 := Lib.hid hr5
  have z50 := keep_call z5 HZ3.out
  have B05 := B0.after z50
  clear a0 a1 a2 a3 a4 a5 a6 la b0 b1 b2 b3 lb hr5 z5
  obtain ⟨d0, d1, d2, d3, d4, d5, d6⟩ := B05.cells
  have ld := B05.lt
  have fz := B05.free
  have HZ5 := Lib.hid (Z.trans (z50.mono (by omega)))
  have hl2 : w.heap.size ≤ w.heap.size + 1 + 1 := by omega
  have HH2 := Lib.hid (show w.heap.size + 1 + 1 < w0.heap.size by omega)
  have HHZ := Lib.hid (show w.heap.size ≤ w0.heap.size by omega)
  clear hz z50
  go_wp2
  change bodyPost _ _ _ _ _ (pf w5 (w.heap.size + 1 + 1) f')
  refine bodyPost_ret (results_fr Try.results27 _ rfl (B05.pf _)) rfl ?_
  exact ⟨A5, c5, rfl, (HR5.out.pf HH2.out _).mono HHZ.out, below_pf HZ5.out hl2 _⟩
set_option maxRecDepth 100000 in
/-- A step, where the outcome is known. -/
theorem steal_n {W D J S : Int} {A : Option Addr} {n c : Nat} {l : List Int} {f : Fr} {w : World} (h : Rd w A l) (hn : l.length = n) (hs : n ≤ 500) (hf : UF f) {l' : List Int} {f' : Fr} (e : stealS W D J S l f = (l', f')) :
    Calls Try.prog 27 #[cf W D J S, .slice A n c, fv f] w fun e w' => ∃ A' c', e = .returned (.tuple #[.slice A' n c', fv f']) ∧ Rn w.heap.size w' A' l' ∧ Below w.heap.size w w' := by
  cases hg : goes W D J S l f 2 4
  · have e2 : stealS W D J S l f = (l, f) := by unfold stealS; rw [hg]; rfl
    rw [e2] at e
    injection e with e1 e2
    rw [← e1, ← e2]
    exact stealc_leave W D J S A n c l f w h hn hs hg
  · exact stealc_goes W D J S A n c l f l' f' w h hn hs hg hf e
set_option maxRecDepth 100000 in
theorem stealN_len (W D J S : Int) (k : Nat) (s : List Int × Fr) : (itN (stealS W D J S) k s).1.length = s.1.length := by
  induction k with
  | zero => rfl
  | succ k ih => exact (stealS_len _ _ _ _ _ _).trans ih
set_option maxRecDepth 100000 in
theorem stealN_U {W D J S : Int} {s : List Int × Fr} (hm : UM s.1) (hf : UF s.2) (k : Nat) : UM (itN (stealS W D J S) k s).1 ∧ UF (itN (stealS W D J S) k s).2 :=
  itN_inv (g := stealS W D J S) (P := fun m f => UM m ∧ UF f) (fun _ _ h => stealS_U h.1 h.2) ⟨hm, hf⟩ k
end Go.Proofs.Ytpeaahihjeplmaa
