/- The Steps of the deque, the injector and the event, as on lists. -/
import Derived.Test.YtlpkccpijloidaaGreatPuG2
import Derived.Test.YtlpkccpijloidaaGreatPoY
import Derived.Test.YtlpkccpijloidaaGreatStY
import Derived.Test.YtlpkccpijloidaaGreatEnY
import Derived.Test.YtlpkccpijloidaaGreatTaY
import Derived.Test.YtlpkccpijloidaaGreatWtZ
import Derived.Test.YtlpkccpijloidaaGreatNtY
import Derived.Test.YtlpkccpijloidaaGreatStM
import Derived.Deep.CutRange
import Derived.Deep.DeepCutAuto
namespace Go.Proofs.YtlpkccpijloidaaGreat
set_option maxRecDepth 100000
open Go.RowKit Go.Deep
set_option maxHeartbeats 4000000 in
theorem dstep_0 (W D J S : Int) (A : Option Addr) (n c : Nat) (l : List Int) (f : Fr) (l' : List Int) (f' : Fr) (w : World) (h : Rd w A l) (hn : l.length = n) (hs : n ≤ 500) (hu : UM l) (hf : UF f) (ho : f.op = 0) (e : pushS W D J S l f = (l', f')) :
    Calls Tryz.prog 76 #[cf W D J S, .slice A n c, fv f] w (RetQ w.heap.size w n l' f') := by
  have H := Lib.hid h; clear h
  have HN := Lib.hid hn; clear hn
  have HS := Lib.hid hs; clear hs
  have HF := Lib.hid hf; clear hf
  have HU := Lib.hid hu; clear hu
  have HE := Lib.hid e; clear e
  obtain ⟨o, p, q, v, x, y, s⟩ := f
  simp only at ho
  subst ho
  obtain ⟨BX, BF, B0, Z, hz⟩ := boxes3 w W D J S ⟨0, p, q, v, x, y, s⟩
  have H := Lib.hid (H.out.below Z)
  go_enter Tryz.func76, Tryz.ntmps76
  go_upto_region 1 with fail
  change Code.wp _ _ _ _ (bx3 w W D J S ⟨0, p, q, v, x, y, s⟩)
  generalize bx3 w W D J S ⟨0, p, q, v, x, y, s⟩ = w0 at BX BF B0 Z hz H ⊢
  obtain ⟨_, b0, b1, b2, b3⟩ := BX
  obtain ⟨a0, a1, a2, a3, a4, a5, a6⟩ := BF.cells
  have la := BF.lt
  go_wp2_with fail
  refine (step_n (c := c) H.out HN.out HS.out HF.out HE.out).mono ?_
  rintro _ w1 ⟨A1, c1, rfl, hr1, z1⟩
  have HR1 := Lib.hid hr1
  have HZ1 := Lib.hid z1
  have B1 := B0.after z1
  obtain ⟨d0, d1, d2, d3, d4, d5, d6⟩ := B1.cells
  have lb := B1.lt
  have fz := B1.free
  have HZ := Lib.hid (Z.trans (z1.mono (by omega)))
  have hl2 : w.heap.size ≤ w.heap.size + 1 + 1 := by omega
  have HH2 := Lib.hid (show w.heap.size + 1 + 1 < w0.heap.size by omega)
  have HHZ := Lib.hid (show w.heap.size ≤ w0.heap.size by omega)
  clear hr1 z1 a0 a1 a2 a3 a4 a5 a6 la b0 b1 b2 b3 hz
  go_wp2
  change bodyPost _ _ _ _ _ (pf w1 (w.heap.size + 1 + 1) f')
  refine bodyPost_ret (results_fr Tryz.results76 _ rfl (B1.pf _)) rfl ?_
  exact ⟨A1, c1, rfl, (HR1.out.pf HH2.out _).mono HHZ.out, below_pf HZ.out hl2 _⟩
set_option maxHeartbeats 4000000 in
theorem dstep_1 (W D J S : Int) (A : Option Addr) (n c : Nat) (l : List Int) (f : Fr) (l' : List Int) (f' : Fr) (w : World) (h : Rd w A l) (hn : l.length = n) (hs : n ≤ 500) (hu : UM l) (hf : UF f) (ho : f.op = 1) (e : popS W D J S l f = (l', f')) :
    Calls Tryz.prog 76 #[cf W D J S, .slice A n c, fv f] w (RetQ w.heap.size w n l' f') := by
  have H := Lib.hid h; clear h
  have HN := Lib.hid hn; clear hn
  have HS := Lib.hid hs; clear hs
  have HF := Lib.hid hf; clear hf
  have HU := Lib.hid hu; clear hu
  have HE := Lib.hid e; clear e
  obtain ⟨o, p, q, v, x, y, s⟩ := f
  simp only at ho
  subst ho
  obtain ⟨BX, BF, B0, Z, hz⟩ := boxes3 w W D J S ⟨1, p, q, v, x, y, s⟩
  have H := Lib.hid (H.out.below Z)
  go_enter Tryz.func76, Tryz.ntmps76
  go_upto_region 1 with fail
  change Code.wp _ _ _ _ (bx3 w W D J S ⟨1, p, q, v, x, y, s⟩)
  generalize bx3 w W D J S ⟨1, p, q, v, x, y, s⟩ = w0 at BX BF B0 Z hz H ⊢
  obtain ⟨_, b0, b1, b2, b3⟩ := BX
  obtain ⟨a0, a1, a2, a3, a4, a5, a6⟩ := BF.cells
  have la := BF.lt
  go_wp2_with fail
  refine (pop_n (c := c) H.out HN.out HS.out HF.out HE.out).mono ?_
  rintro _ w1 ⟨A1, c1, rfl, hr1, z1⟩
  have HR1 := Lib.hid hr1
  have HZ1 := Lib.hid z1
  have B1 := B0.after z1
  obtain ⟨d0, d1, d2, d3, d4, d5, d6⟩ := B1.cells
  have lb := B1.lt
  have fz := B1.free
  have HZ := Lib.hid (Z.trans (z1.mono (by omega)))
  have hl2 : w.heap.size ≤ w.heap.size + 1 + 1 := by omega
  have HH2 := Lib.hid (show w.heap.size + 1 + 1 < w0.heap.size by omega)
  have HHZ := Lib.hid (show w.heap.size ≤ w0.heap.size by omega)
  clear hr1 z1 a0 a1 a2 a3 a4 a5 a6 la b0 b1 b2 b3 hz
  go_wp2
  change bodyPost _ _ _ _ _ (pf w1 (w.heap.size + 1 + 1) f')
  refine bodyPost_ret (results_fr Tryz.results76 _ rfl (B1.pf _)) rfl ?_
  exact ⟨A1, c1, rfl, (HR1.out.pf HH2.out _).mono HHZ.out, below_pf HZ.out hl2 _⟩
set_option maxHeartbeats 4000000 in
theorem dstep_2 (W D J S : Int) (A : Option Addr) (n c : Nat) (l : List Int) (f : Fr) (l' : List Int) (f' : Fr) (w : World) (h : Rd w A l) (hn : l.length = n) (hs : n ≤ 500) (hu : UM l) (hf : UF f) (ho : f.op = 2) (e : stealS W D J S l f = (l', f')) :
    Calls Tryz.prog 76 #[cf W D J S, .slice A n c, fv f] w (RetQ w.heap.size w n l' f') := by
  have H := Lib.hid h; clear h
  have HN := Lib.hid hn; clear hn
  have HS := Lib.hid hs; clear hs
  have HF := Lib.hid hf; clear hf
  have HU := Lib.hid hu; clear hu
  have HE := Lib.hid e; clear e
  obtain ⟨o, p, q, v, x, y, s⟩ := f
  simp only at ho
  subst ho
  obtain ⟨BX, BF, B0, Z, hz⟩ := boxes3 w W D J S ⟨2, p, q, v, x, y, s⟩
  have H := Lib.hid (H.out.below Z)
  go_enter Tryz.func76, Tryz.ntmps76
  go_upto_region 1 with fail
  change Code.wp _ _ _ _ (bx3 w W D J S ⟨2, p, q, v, x, y, s⟩)
  generalize bx3 w W D J S ⟨2, p, q, v, x, y, s⟩ = w0 at BX BF B0 Z hz H ⊢
  obtain ⟨_, b0, b1, b2, b3⟩ := BX
  obtain ⟨a0, a1, a2, a3, a4, a5, a6⟩ := BF.cells
  have la := BF.lt
  go_wp2_with fail
  refine (steal_n (c := c) H.out HN.out HS.out HF.out HE.out).mono ?_
  rintro _ w1 ⟨A1, c1, rfl, hr1, z1⟩
  have HR1 := Lib.hid hr1
  have HZ1 := Lib.hid z1
  have B1 := B0.after z1
  obtain ⟨d0, d1, d2, d3, d4, d5, d6⟩ := B1.cells
  have lb := B1.lt
  have fz := B1.free
  have HZ := Lib.hid (Z.trans (z1.mono (by omega)))
  have hl2 : w.heap.size ≤ w.heap.size + 1 + 1 := by omega
  have HH2 := Lib.hid (show w.heap.size + 1 + 1 < w0.heap.size by omega)
  have HHZ := Lib.hid (show w.heap.size ≤ w0.heap.size by omega)
  clear hr1 z1 a0 a1 a2 a3 a4 a5 a6 la b0 b1 b2 b3 hz
  go_wp2
  change bodyPost _ _ _ _ _ (pf w1 (w.heap.size + 1 + 1) f')
  refine bodyPost_ret (results_fr Tryz.results76 _ rfl (B1.pf _)) rfl ?_
  exact ⟨A1, c1, rfl, (HR1.out.pf HH2.out _).mono HHZ.out, below_pf HZ.out hl2 _⟩
set_option maxHeartbeats 4000000 in
theorem dstep_x (W D J S : Int) (A : Option Addr) (n c : Nat) (l : List Int) (f : Fr) (l' : List Int) (f' : Fr) (w : World) (h : Rd w A l) (hn : l.length = n) (hs : n ≤ 500) (hu : UM l) (hf : UF f) (ho : ¬ f.op = 0 ∧ ¬ f.op = 1 ∧ ¬ f.op = 2) (e : (l, f) = (l', f')) :
    Calls Tryz.prog 76 #[cf W D J S, .slice A n c, fv f] w (RetQ w.heap.size w n l' f') := by
  have H := Lib.hid h; clear h
  have HN := Lib.hid hn; clear hn
  have HS := Lib.hid hs; clear hs
  have HF := Lib.hid hf; clear hf
  have HU := Lib.hid hu; clear hu
  have HE := Lib.hid e; clear e
  obtain ⟨o, p, q, v, x, y, s⟩ := f
  simp only at ho
  have g0 : (o == 0) = false := by simpa using ho.1
  have g1 : (o == 1) = false := by simpa using ho.2.1
  have g2 : (o == 2) = false := by simpa using ho.2.2
  clear ho
  obtain ⟨BX, BF, B0, Z, hz⟩ := boxes3 w W D J S ⟨o, p, q, v, x, y, s⟩
  have H := Lib.hid (H.out.below Z)
  go_enter Tryz.func76, Tryz.ntmps76
  go_upto_region 1 with fail
  change Code.wp _ _ _ _ (bx3 w W D J S ⟨o, p, q, v, x, y, s⟩)
  generalize bx3 w W D J S ⟨o, p, q, v, x, y, s⟩ = w0 at BX BF B0 Z hz H ⊢
  obtain ⟨_, b0, b1, b2, b3⟩ := BX
  obtain ⟨a0, a1, a2, a3, a4, a5, a6⟩ := BF.cells
  have la := BF.lt
  obtain ⟨e1, e2⟩ := Prod.mk.inj HE.out
  subst e1 e2
  obtain ⟨d0, d1, d2, d3, d4, d5, d6⟩ := B0.cells
  have lb := B0.lt
  have fz := B0.free
  have H1 : Rd w0.drew A l := H.out
  have hl2 : w.heap.size ≤ w.heap.size + 1 + 1 := by omega
  have HH2 := Lib.hid (show w.heap.size + 1 + 1 < w0.heap.size by omega)
  have HHZ := Lib.hid (show w.heap.size ≤ w0.heap.size by omega)
  have HLT := Lib.hid (show w.heap.size + 1 < w0.heap.size by omega)
  clear hz
  go_wp2
  go_region_with (go_at_call 21; (refine (clone_any A n c l _ H1 HN.out HS.out).mono ?_); rintro _ w1 ⟨A1, c1, rfl, hr1, z1⟩; have HR1 := Lib.hid hr1; have HZ1 := Lib.hid z1; have B1 := B0.drew.after z1; obtain ⟨d0, d1, d2, d3, d4, d5, d6⟩ := B1.cells; have lb := B1.lt; have fz := B1.free; obtain ⟨a0, a1, a2, a3, a4, a5, a6⟩ := (BF.drew.after z1).cells; have la := (BF.drew.after z1).lt; have HZ := Lib.hid (Z.drew.trans (z1.mono HHZ.out)); clear hr1 z1)
  all_goals
    go_wp2
    change bodyPost _ _ _ _ _ (pf w1 (w.heap.size + 1 + 1) ⟨o, p, q, v, x, y, s⟩)
    refine bodyPost_ret (results_fr Tryz.results76 _ rfl (B1.pf _)) rfl ?_
    exact ⟨A1, c1, rfl, (HR1.out.pf HH2.out _).mono HHZ.out, below_pf HZ.out hl2 _⟩
/-- A step, where the outcome is known. -/
theorem dstep_n {W D J S : Int} {A : Option Addr} {n c : Nat} {l : List Int} {f : Fr} {w : World} (h : Rd w A l) (hn : l.length = n) (hs : n ≤ 500) (hu : UM l) (hf : UF f) {l' : List Int} {f' : Fr} (e : dqS W D J S l f = (l', f')) :
    Calls Tryz.prog 76 #[cf W D J S, .slice A n c, fv f] w (RetQ w.heap.size w n l' f') := by
  unfold dqS at e
  by_cases h0 : f.op = 0
  · rw [if_pos h0] at e; exact dstep_0 W D J S A n c l f l' f' w h hn hs hu hf h0 e
  by_cases h1 : f.op = 1
  · rw [if_neg h0, if_pos h1] at e; exact dstep_1 W D J S A n c l f l' f' w h hn hs hu hf h1 e
  by_cases h2 : f.op = 2
  · rw [if_neg h0, if_neg h1, if_pos h2] at e; exact dstep_2 W D J S A n c l f l' f' w h hn hs hu hf h2 e
  rw [if_neg h0, if_neg h1, if_neg h2] at e
  exact dstep_x W D J S A n c l f l' f' w h hn hs hu hf ⟨h0, h1, h2⟩ e
set_option maxHeartbeats 4000000 in
theorem istep_3 (W D J S : Int) (A : Option Addr) (n c : Nat) (l : List Int) (f : Fr) (l' : List Int) (f' : Fr) (w : World) (h : Rd w A l) (hn : l.length = n) (hs : n ≤ 500) (hu : UM l) (hf : UF f) (ho : f.op = 3) (e : enqS W D J S l f = (l', f')) :
    Calls Tryz.prog 77 #[cf W D J S, .slice A n c, fv f] w (RetQ w.heap.size w n l' f') := by
  have H := Lib.hid h; clear h
  have HN := Lib.hid hn; clear hn
  have HS := Lib.hid hs; clear hs
  have HF := Lib.hid hf; clear hf
  have HU := Lib.hid hu; clear hu
  have HE := Lib.hid e; clear e
  obtain ⟨o, p, q, v, x, y, s⟩ := f
  simp only at ho
  subst ho
  obtain ⟨BX, BF, B0, Z, hz⟩ := boxes3 w W D J S ⟨3, p, q, v, x, y, s⟩
  have H := Lib.hid (H.out.below Z)
  go_enter Tryz.func77, Tryz.ntmps77
  go_upto_region 1 with fail
  change Code.wp _ _ _ _ (bx3 w W D J S ⟨3, p, q, v, x, y, s⟩)
  generalize bx3 w W D J S ⟨3, p, q, v, x, y, s⟩ = w0 at BX BF B0 Z hz H ⊢
  obtain ⟨_, b0, b1, b2, b3⟩ := BX
  obtain ⟨a0, a1, a2, a3, a4, a5, a6⟩ := BF.cells
  have la := BF.lt
  go_wp2_with fail
  refine (enq_n (c := c) H.out HN.out HS.out HF.out HE.out).mono ?_
  rintro _ w1 ⟨A1, c1, rfl, hr1, z1⟩
  have HR1 := Lib.hid hr1
  have HZ1 := Lib.hid z1
  have B1 := B0.after z1
  obtain ⟨d0, d1, d2, d3, d4, d5, d6⟩ := B1.cells
  have lb := B1.lt
  have fz := B1.free
  have HZ := Lib.hid (Z.trans (z1.mono (by omega)))
  have hl2 : w.heap.size ≤ w.heap.size + 1 + 1 := by omega
  have HH2 := Lib.hid (show w.heap.size + 1 + 1 < w0.heap.size by omega)
  have HHZ := Lib.hid (show w.heap.size ≤ w0.heap.size by omega)
  clear hr1 z1 a0 a1 a2 a3 a4 a5 a6 la b0 b1 b2 b3 hz
  go_wp2
  change bodyPost _ _ _ _ _ (pf w1 (w.heap.size + 1 + 1) f')
  refine bodyPost_ret (results_fr Tryz.results77 _ rfl (B1.pf _)) rfl ?_
  exact ⟨A1, c1, rfl, (HR1.out.pf HH2.out _).mono HHZ.out, below_pf HZ.out hl2 _⟩
set_option maxHeartbeats 4000000 in
theorem istep_4 (W D J S : Int) (A : Option Addr) (n c : Nat) (l : List Int) (f : Fr) (l' : List Int) (f' : Fr) (w : World) (h : Rd w A l) (hn : l.length = n) (hs : n ≤ 500) (hu : UM l) (hf : UF f) (ho : f.op = 4) (e : outS W D J S l f = (l', f')) :
    Calls Tryz.prog 77 #[cf W D J S, .slice A n c, fv f] w (RetQ w.heap.size w n l' f') := by
  have H := Lib.hid h; clear h
  have HN := Lib.hid hn; clear hn
  have HS := Lib.hid hs; clear hs
  have HF := Lib.hid hf; clear hf
  have HU := Lib.hid hu; clear hu
  have HE := Lib.hid e; clear e
  obtain ⟨o, p, q, v, x, y, s⟩ := f
  simp only at ho
  subst ho
  obtain ⟨BX, BF, B0, Z, hz⟩ := boxes3 w W D J S ⟨4, p, q, v, x, y, s⟩
  have H := Lib.hid (H.out.below Z)
  go_enter Tryz.func77, Tryz.ntmps77
  go_upto_region 1 with fail
  change Code.wp _ _ _ _ (bx3 w W D J S ⟨4, p, q, v, x, y, s⟩)
  generalize bx3 w W D J S ⟨4, p, q, v, x, y, s⟩ = w0 at BX BF B0 Z hz H ⊢
  obtain ⟨_, b0, b1, b2, b3⟩ := BX
  obtain ⟨a0, a1, a2, a3, a4, a5, a6⟩ := BF.cells
  have la := BF.lt
  go_wp2_with fail
  refine (out_n (c := c) H.out HN.out HS.out HF.out HE.out).mono ?_
  rintro _ w1 ⟨A1, c1, rfl, hr1, z1⟩
  have HR1 := Lib.hid hr1
  have HZ1 := Lib.hid z1
  have B1 := B0.after z1
  obtain ⟨d0, d1, d2, d3, d4, d5, d6⟩ := B1.cells
  have lb := B1.lt
  have fz := B1.free
  have HZ := Lib.hid (Z.trans (z1.mono (by omega)))
  have hl2 : w.heap.size ≤ w.heap.size + 1 + 1 := by omega
  have HH2 := Lib.hid (show w.heap.size + 1 + 1 < w0.heap.size by omega)
  have HHZ := Lib.hid (show w.heap.size ≤ w0.heap.size by omega)
  clear hr1 z1 a0 a1 a2 a3 a4 a5 a6 la b0 b1 b2 b3 hz
  go_wp2
  change bodyPost _ _ _ _ _ (pf w1 (w.heap.size + 1 + 1) f')
  refine bodyPost_ret (results_fr Tryz.results77 _ rfl (B1.pf _)) rfl ?_
  exact ⟨A1, c1, rfl, (HR1.out.pf HH2.out _).mono HHZ.out, below_pf HZ.out hl2 _⟩
set_option maxHeartbeats 4000000 in
theorem istep_x (W D J S : Int) (A : Option Addr) (n c : Nat) (l : List Int) (f : Fr) (l' : List Int) (f' : Fr) (w : World) (h : Rd w A l) (hn : l.length = n) (hs : n ≤ 500) (hu : UM l) (hf : UF f) (ho : ¬ f.op = 3 ∧ ¬ f.op = 4) (e : (l, f) = (l', f')) :
    Calls Tryz.prog 77 #[cf W D J S, .slice A n c, fv f] w (RetQ w.heap.size w n l' f') := by
  have H := Lib.hid h; clear h
  have HN := Lib.hid hn; clear hn
  have HS := Lib.hid hs; clear hs
  have HF := Lib.hid hf; clear hf
  have HU := Lib.hid hu; clear hu
  have HE := Lib.hid e; clear e
  obtain ⟨o, p, q, v, x, y, s⟩ := f
  simp only at ho
  have g0 : (o == 3) = false := by simpa using ho.1
  have g1 : (o == 4) = false := by simpa using ho.2
  clear ho
  obtain ⟨BX, BF, B0, Z, hz⟩ := boxes3 w W D J S ⟨o, p, q, v, x, y, s⟩
  have H := Lib.hid (H.out.below Z)
  go_enter Tryz.func77, Tryz.ntmps77
  go_upto_region 1 with fail
  change Code.wp _ _ _ _ (bx3 w W D J S ⟨o, p, q, v, x, y, s⟩)
  generalize bx3 w W D J S ⟨o, p, q, v, x, y, s⟩ = w0 at BX BF B0 Z hz H ⊢
  obtain ⟨_, b0, b1, b2, b3⟩ := BX
  obtain ⟨a0, a1, a2, a3, a4, a5, a6⟩ := BF.cells
  have la := BF.lt
  obtain ⟨e1, e2⟩ := Prod.mk.inj HE.out
  subst e1 e2
  obtain ⟨d0, d1, d2, d3, d4, d5, d6⟩ := B0.cells
  have lb := B0.lt
  have fz := B0.free
  have H1 : Rd w0.drew A l := H.out
  have hl2 : w.heap.size ≤ w.heap.size + 1 + 1 := by omega
  have HH2 := Lib.hid (show w.heap.size + 1 + 1 < w0.heap.size by omega)
  have HHZ := Lib.hid (show w.heap.size ≤ w0.heap.size by omega)
  have HLT := Lib.hid (show w.heap.size + 1 < w0.heap.size by omega)
  clear hz
  go_wp2
  go_region_with (go_at_call 21; (refine (clone_any A n c l _ H1 HN.out HS.out).mono ?_); rintro _ w1 ⟨A1, c1, rfl, hr1, z1⟩; have HR1 := Lib.hid hr1; have HZ1 := Lib.hid z1; have B1 := B0.drew.after z1; obtain ⟨d0, d1, d2, d3, d4, d5, d6⟩ := B1.cells; have lb := B1.lt; have fz := B1.free; obtain ⟨a0, a1, a2, a3, a4, a5, a6⟩ := (BF.drew.after z1).cells; have la := (BF.drew.after z1).lt; have HZ := Lib.hid (Z.drew.trans (z1.mono HHZ.out)); clear hr1 z1)
  all_goals
    go_wp2
    change bodyPost _ _ _ _ _ (pf w1 (w.heap.size + 1 + 1) ⟨o, p, q, v, x, y, s⟩)
    refine bodyPost_ret (results_fr Tryz.results77 _ rfl (B1.pf _)) rfl ?_
    exact ⟨A1, c1, rfl, (HR1.out.pf HH2.out _).mono HHZ.out, below_pf HZ.out hl2 _⟩
/-- A step, where the outcome is known. -/
theorem istep_n {W D J S : Int} {A : Option Addr} {n c : Nat} {l : List Int} {f : Fr} {w : World} (h : Rd w A l) (hn : l.length = n) (hs : n ≤ 500) (hu : UM l) (hf : UF f) {l' : List Int} {f' : Fr} (e : ijS W D J S l f = (l', f')) :
    Calls Tryz.prog 77 #[cf W D J S, .slice A n c, fv f] w (RetQ w.heap.size w n l' f') := by
  unfold ijS at e
  by_cases h0 : f.op = 3
  · rw [if_pos h0] at e; exact istep_3 W D J S A n c l f l' f' w h hn hs hu hf h0 e
  by_cases h1 : f.op = 4
  · rw [if_neg h0, if_pos h1] at e; exact istep_4 W D J S A n c l f l' f' w h hn hs hu hf h1 e
  rw [if_neg h0, if_neg h1] at e
  exact istep_x W D J S A n c l f l' f' w h hn hs hu hf ⟨h0, h1⟩ e
theorem noteS_other {W D J S : Int} {m : List Int} {f : Fr} (h : ¬ f.op = 6 ∧ ¬ f.op = 7) : noteS W D J S m f = (m, f) := by
  have hg : goesN W D J S m f = false := by
    unfold goesN
    simp [h.1, h.2]
  unfold noteS
  rw [if_neg (by rw [hg]; simp)]
set_option maxHeartbeats 4000000 in
theorem estep_5 (W D J S : Int) (A : Option Addr) (n c : Nat) (l : List Int) (f : Fr) (l' : List Int) (f' : Fr) (w : World) (h : Rd w A l) (hn : l.length = n) (hs : n ≤ 500) (hu : UM l) (hf : UF f) (ho : f.op = 5) (e : waitS W D J S l f = (l', f')) :
    Calls Tryz.prog 75 #[cf W D J S, .slice A n c, fv f] w (RetQ w.heap.size w n l' f') := by
  have H := Lib.hid h; clear h
  have HN := Lib.hid hn; clear hn
  have HS := Lib.hid hs; clear hs
  have HF := Lib.hid hf; clear hf
  have HU := Lib.hid hu; clear hu
  have HE := Lib.hid e; clear e
  obtain ⟨o, p, q, v, x, y, s⟩ := f
  simp only at ho
  subst ho
  obtain ⟨BX, BF, B0, Z, hz⟩ := boxes3 w W D J S ⟨5, p, q, v, x, y, s⟩
  have H := Lib.hid (H.out.below Z)
  go_enter Tryz.func75, Tryz.ntmps75
  go_upto_region 1 with fail
  change Code.wp _ _ _ _ (bx3 w W D J S ⟨5, p, q, v, x, y, s⟩)
  generalize bx3 w W D J S ⟨5, p, q, v, x, y, s⟩ = w0 at BX BF B0 Z hz H ⊢
  obtain ⟨_, b0, b1, b2, b3⟩ := BX
  obtain ⟨a0, a1, a2, a3, a4, a5, a6⟩ := BF.cells
  have la := BF.lt
  go_wp2_with fail
  refine (wait_n (c := c) H.out HN.out HS.out HF.out HE.out).mono ?_
  rintro _ w1 ⟨A1, c1, rfl, hr1, z1⟩
  have HR1 := Lib.hid hr1
  have HZ1 := Lib.hid z1
  have B1 := B0.after z1
  obtain ⟨d0, d1, d2, d3, d4, d5, d6⟩ := B1.cells
  have lb := B1.lt
  have fz := B1.free
  have HZ := Lib.hid (Z.trans (z1.mono (by omega)))
  have hl2 : w.heap.size ≤ w.heap.size + 1 + 1 := by omega
  have HH2 := Lib.hid (show w.heap.size + 1 + 1 < w0.heap.size by omega)
  have HHZ := Lib.hid (show w.heap.size ≤ w0.heap.size by omega)
  clear hr1 z1 a0 a1 a2 a3 a4 a5 a6 la b0 b1 b2 b3 hz
  go_wp2
  change bodyPost _ _ _ _ _ (pf w1 (w.heap.size + 1 + 1) f')
  refine bodyPost_ret (results_fr Tryz.results75 _ rfl (B1.pf _)) rfl ?_
  exact ⟨A1, c1, rfl, (HR1.out.pf HH2.out _).mono HHZ.out, below_pf HZ.out hl2 _⟩
set_option maxHeartbeats 4000000 in
theorem estep_6 (W D J S : Int) (A : Option Addr) (n c : Nat) (l : List Int) (f : Fr) (l' : List Int) (f' : Fr) (w : World) (h : Rd w A l) (hn : l.length = n) (hs : n ≤ 500) (hu : UM l) (hf : UF f) (ho : f.op = 6) (e : noteS W D J S l f = (l', f')) :
    Calls Tryz.prog 75 #[cf W D J S, .slice A n c, fv f] w (RetQ w.heap.size w n l' f') := by
  have H := Lib.hid h; clear h
  have HN := Lib.hid hn; clear hn
  have HS := Lib.hid hs; clear hs
  have HF := Lib.hid hf; clear hf
  have HU := Lib.hid hu; clear hu
  have HE := Lib.hid e; clear e
  obtain ⟨o, p, q, v, x, y, s⟩ := f
  simp only at ho
  subst ho
  obtain ⟨BX, BF, B0, Z, hz⟩ := boxes3 w W D J S ⟨6, p, q, v, x, y, s⟩
  have H := Lib.hid (H.out.below Z)
  go_enter Tryz.func75, Tryz.ntmps75
  go_upto_region 1 with fail
  change Code.wp _ _ _ _ (bx3 w W D J S ⟨6, p, q, v, x, y, s⟩)
  generalize bx3 w W D J S ⟨6, p, q, v, x, y, s⟩ = w0 at BX BF B0 Z hz H ⊢
  obtain ⟨_, b0, b1, b2, b3⟩ := BX
  obtain ⟨a0, a1, a2, a3, a4, a5, a6⟩ := BF.cells
  have la := BF.lt
  go_wp2_with fail
  refine (note_n (c := c) H.out HN.out HS.out HF.out HE.out).mono ?_
  rintro _ w1 ⟨A1, c1, rfl, hr1, z1⟩
  have HR1 := Lib.hid hr1
  have HZ1 := Lib.hid z1
  have B1 := B0.after z1
  obtain ⟨d0, d1, d2, d3, d4, d5, d6⟩ := B1.cells
  have lb := B1.lt
  have fz := B1.free
  have HZ := Lib.hid (Z.trans (z1.mono (by omega)))
  have hl2 : w.heap.size ≤ w.heap.size + 1 + 1 := by omega
  have HH2 := Lib.hid (show w.heap.size + 1 + 1 < w0.heap.size by omega)
  have HHZ := Lib.hid (show w.heap.size ≤ w0.heap.size by omega)
  clear hr1 z1 a0 a1 a2 a3 a4 a5 a6 la b0 b1 b2 b3 hz
  go_wp2
  change bodyPost _ _ _ _ _ (pf w1 (w.heap.size + 1 + 1) f')
  refine bodyPost_ret (results_fr Tryz.results75 _ rfl (B1.pf _)) rfl ?_
  exact ⟨A1, c1, rfl, (HR1.out.pf HH2.out _).mono HHZ.out, below_pf HZ.out hl2 _⟩
set_option maxHeartbeats 4000000 in
theorem estep_7 (W D J S : Int) (A : Option Addr) (n c : Nat) (l : List Int) (f : Fr) (l' : List Int) (f' : Fr) (w : World) (h : Rd w A l) (hn : l.length = n) (hs : n ≤ 500) (hu : UM l) (hf : UF f) (ho : f.op = 7) (e : noteS W D J S l f = (l', f')) :
    Calls Tryz.prog 75 #[cf W D J S, .slice A n c, fv f] w (RetQ w.heap.size w n l' f') := by
  have H := Lib.hid h; clear h
  have HN := Lib.hid hn; clear hn
  have HS := Lib.hid hs; clear hs
  have HF := Lib.hid hf; clear hf
  have HU := Lib.hid hu; clear hu
  have HE := Lib.hid e; clear e
  obtain ⟨o, p, q, v, x, y, s⟩ := f
  simp only at ho
  subst ho
  obtain ⟨BX, BF, B0, Z, hz⟩ := boxes3 w W D J S ⟨7, p, q, v, x, y, s⟩
  have H := Lib.hid (H.out.below Z)
  go_enter Tryz.func75, Tryz.ntmps75
  go_upto_region 1 with fail
  change Code.wp _ _ _ _ (bx3 w W D J S ⟨7, p, q, v, x, y, s⟩)
  generalize bx3 w W D J S ⟨7, p, q, v, x, y, s⟩ = w0 at BX BF B0 Z hz H ⊢
  obtain ⟨_, b0, b1, b2, b3⟩ := BX
  obtain ⟨a0, a1, a2, a3, a4, a5, a6⟩ := BF.cells
  have la := BF.lt
  go_wp2_with fail
  refine (note_n (c := c) H.out HN.out HS.out HF.out HE.out).mono ?_
  rintro _ w1 ⟨A1, c1, rfl, hr1, z1⟩
  have HR1 := Lib.hid hr1
  have HZ1 := Lib.hid z1
  have B1 := B0.after z1
  obtain ⟨d0, d1, d2, d3, d4, d5, d6⟩ := B1.cells
  have lb := B1.lt
  have fz := B1.free
  have HZ := Lib.hid (Z.trans (z1.mono (by omega)))
  have hl2 : w.heap.size ≤ w.heap.size + 1 + 1 := by omega
  have HH2 := Lib.hid (show w.heap.size + 1 + 1 < w0.heap.size by omega)
  have HHZ := Lib.hid (show w.heap.size ≤ w0.heap.size by omega)
  clear hr1 z1 a0 a1 a2 a3 a4 a5 a6 la b0 b1 b2 b3 hz
  go_wp2
  change bodyPost _ _ _ _ _ (pf w1 (w.heap.size + 1 + 1) f')
  refine bodyPost_ret (results_fr Tryz.results75 _ rfl (B1.pf _)) rfl ?_
  exact ⟨A1, c1, rfl, (HR1.out.pf HH2.out _).mono HHZ.out, below_pf HZ.out hl2 _⟩
set_option maxHeartbeats 4000000 in
theorem estep_x (W D J S : Int) (A : Option Addr) (n c : Nat) (l : List Int) (f : Fr) (l' : List Int) (f' : Fr) (w : World) (h : Rd w A l) (hn : l.length = n) (hs : n ≤ 500) (hu : UM l) (hf : UF f) (ho : ¬ f.op = 5 ∧ ¬ f.op = 6 ∧ ¬ f.op = 7) (e : (l, f) = (l', f')) :
    Calls Tryz.prog 75 #[cf W D J S, .slice A n c, fv f] w (RetQ w.heap.size w n l' f') := by
  have H := Lib.hid h; clear h
  have HN := Lib.hid hn; clear hn
  have HS := Lib.hid hs; clear hs
  have HF := Lib.hid hf; clear hf
  have HU := Lib.hid hu; clear hu
  have HE := Lib.hid e; clear e
  obtain ⟨o, p, q, v, x, y, s⟩ := f
  simp only at ho
  have g0 : (o == 5) = false := by simpa using ho.1
  have g1 : (o == 6) = false := by simpa using ho.2.1
  have g2 : (o == 7) = false := by simpa using ho.2.2
  clear ho
  obtain ⟨BX, BF, B0, Z, hz⟩ := boxes3 w W D J S ⟨o, p, q, v, x, y, s⟩
  have H := Lib.hid (H.out.below Z)
  go_enter Tryz.func75, Tryz.ntmps75
  go_upto_region 1 with fail
  change Code.wp _ _ _ _ (bx3 w W D J S ⟨o, p, q, v, x, y, s⟩)
  generalize bx3 w W D J S ⟨o, p, q, v, x, y, s⟩ = w0 at BX BF B0 Z hz H ⊢
  obtain ⟨_, b0, b1, b2, b3⟩ := BX
  obtain ⟨a0, a1, a2, a3, a4, a5, a6⟩ := BF.cells
  have la := BF.lt
  obtain ⟨e1, e2⟩ := Prod.mk.inj HE.out
  subst e1 e2
  obtain ⟨d0, d1, d2, d3, d4, d5, d6⟩ := B0.cells
  have lb := B0.lt
  have fz := B0.free
  have H1 : Rd w0.drew A l := H.out
  have hl2 : w.heap.size ≤ w.heap.size + 1 + 1 := by omega
  have HH2 := Lib.hid (show w.heap.size + 1 + 1 < w0.heap.size by omega)
  have HHZ := Lib.hid (show w.heap.size ≤ w0.heap.size by omega)
  have HLT := Lib.hid (show w.heap.size + 1 < w0.heap.size by omega)
  clear hz
  go_wp2
  go_region_with (go_at_call 21; (refine (clone_any A n c l _ H1 HN.out HS.out).mono ?_); rintro _ w1 ⟨A1, c1, rfl, hr1, z1⟩; have HR1 := Lib.hid hr1; have HZ1 := Lib.hid z1; have B1 := B0.drew.after z1; obtain ⟨d0, d1, d2, d3, d4, d5, d6⟩ := B1.cells; have lb := B1.lt; have fz := B1.free; obtain ⟨a0, a1, a2, a3, a4, a5, a6⟩ := (BF.drew.after z1).cells; have la := (BF.drew.after z1).lt; have HZ := Lib.hid (Z.drew.trans (z1.mono HHZ.out)); clear hr1 z1)
  all_goals
    go_wp2
    change bodyPost _ _ _ _ _ (pf w1 (w.heap.size + 1 + 1) ⟨o, p, q, v, x, y, s⟩)
    refine bodyPost_ret (results_fr Tryz.results75 _ rfl (B1.pf _)) rfl ?_
    exact ⟨A1, c1, rfl, (HR1.out.pf HH2.out _).mono HHZ.out, below_pf HZ.out hl2 _⟩
/-- A step, where the outcome is known. -/
theorem estep_n {W D J S : Int} {A : Option Addr} {n c : Nat} {l : List Int} {f : Fr} {w : World} (h : Rd w A l) (hn : l.length = n) (hs : n ≤ 500) (hu : UM l) (hf : UF f) {l' : List Int} {f' : Fr} (e : evS W D J S l f = (l', f')) :
    Calls Tryz.prog 75 #[cf W D J S, .slice A n c, fv f] w (RetQ w.heap.size w n l' f') := by
  unfold evS at e
  by_cases h0 : f.op = 5
  · rw [if_pos h0] at e; exact estep_5 W D J S A n c l f l' f' w h hn hs hu hf h0 e
  rw [if_neg h0] at e
  by_cases h1 : f.op = 6
  · exact estep_6 W D J S A n c l f l' f' w h hn hs hu hf h1 e
  by_cases h2 : f.op = 7
  · exact estep_7 W D J S A n c l f l' f' w h hn hs hu hf h2 e
  rw [noteS_other ⟨h1, h2⟩] at e
  exact estep_x W D J S A n c l f l' f' w h hn hs hu hf ⟨h0, h1, h2⟩ e
end Go.Proofs.YtlpkccpijloidaaGreat
