/- Contracts of the inject's Step, and of the document's own Step. -/
import Derived.Test.YtppllanmgdhabaaIkL
import Derived.Test.YtppllanmgdhabaaIjX
import Derived.Test.YtppllanmgdhabaaEnE
import Derived.Test.YtppllanmgdhabaaTaD
import Derived.Test.YtppllanmgdhabaaPuH2
import Derived.Test.YtppllanmgdhabaaEnG
import Derived.Test.YtppllanmgdhabaaTaG
namespace Go.Proofs.Ytppllanmgdhabaa
open Go.RowKit Go.Deep
set_option maxRecDepth 100000 in
set_option maxHeartbeats 4000000 in
theorem istep_3 (W D J S : Int) (A : Option Addr) (n c : Nat) (l : List Int) (f : Fr) (l' : List Int) (f' : Fr) (w : World) (h : Rd w A l) (hn : l.length = n) (hs : n ≤ 500) (hu : UM l) (hf : UF f) (ho : f.op = 3) (e : enqS W D J S l f = (l', f')) :
    Calls Try.prog 12 #[cf W D J S, .slice A n c, fv f] w (RetQ w.heap.size w n l' f') := by
  have H := Lib.hid h; clear h
  have HN := Lib.hid hn; clear hn
  have HS := Lib.hid hs; clear hs
  have HF := Lib.hid hf; clear hf
  have HU := Lib.hid hu; clear hu
  have HE := Lib.hid e; clear e
  obtain ⟨o, p, q, v, x, y, s⟩ := f
  simp only at ho
  subst ho
  obtain ⟨BX, BF, B0, Z, hz⟩ := boxes3 w W D J S ⟨3, p, q, v, x, y, s⟩
  have H := Lib.hid (H.out.below Z)
  go_enter Try.func12, Try.ntmps12
  go_upto_region 1 with fail
  change Code.wp _ _ _ _ (bx3 w W D J S ⟨3, p, q, v, x, y, s⟩)
  generalize bx3 w W D J S ⟨3, p, q, v, x, y, s⟩ = w0 at BX BF B0 Z hz H ⊢
  obtain ⟨_, b0, b1, b2, b3⟩ := BX
  obtain ⟨a0, a1, a2, a3, a4, a5, a6⟩ := BF.cells
  have la := BF.lt
  go_wp2_with fail
  refine (enq_n (c := c) H.out HN.out HS.out HF.out HE.out).mono ?_
  rintro _ w1 ⟨A1, c1, rfl, hr1, z1⟩
  have HR1 := Lib.hid hr1
  have HZ1 := Lib.hid z1
  have B1 := B0.after z1
  obtain ⟨d0, d1, d2, d3, d4, d5, d6⟩ := B1.cells
  have lb := B1.lt
  have fz := B1.free
  have HZ := Lib.hid (Z.trans (z1.mono (by omega)))
  have hl2 : w.heap.size ≤ w.heap.size + 1 + 1 := by omega
  have HH2 := Lib.hid (show w.heap.size + 1 + 1 < w0.heap.size by omega)
  have HHZ := Lib.hid (show w.heap.size ≤ w0.heap.size by omega)
  clear hr1 z1 a0 a1 a2 a3 a4 a5 a6 la b0 b1 b2 b3 hz
  go_wp2
  change bodyPost _ _ _ _ _ (pf w1 (w.heap.size + 1 + 1) f')
  refine bodyPost_ret (results_fr Try.results12 _ rfl (B1.pf _)) rfl ?_
  exact ⟨A1, c1, rfl, (HR1.out.pf HH2.out _).mono HHZ.out, below_pf HZ.out hl2 _⟩
set_option maxRecDepth 100000 in
set_option maxHeartbeats 4000000 in
theorem istep_4 (W D J S : Int) (A : Option Addr) (n c : Nat) (l : List Int) (f : Fr) (l' : List Int) (f' : Fr) (w : World) (h : Rd w A l) (hn : l.length = n) (hs : n ≤ 500) (hu : UM l) (hf : UF f) (ho : f.op = 4) (e : outS W D J S l f = (l', f')) :
    Calls Try.prog 12 #[cf W D J S, .slice A n c, fv f] w (RetQ w.heap.size w n l' f') := by
  have H := Lib.hid h; clear h
  have HN := Lib.hid hn; clear hn
  have HS := Lib.hid hs; clear hs
  have HF := Lib.hid hf; clear hf
  have HU := Lib.hid hu; clear hu
  have HE := Lib.hid e; clear e
  obtain ⟨o, p, q, v, x, y, s⟩ := f
  simp only at ho
  subst ho
  obtain ⟨BX, BF, B0, Z, hz⟩ := boxes3 w W D J S ⟨4, p, q, v, x, y, s⟩
  have H := Lib.hid (H.out.below Z)
  go_enter Try.func12, Try.ntmps12
  go_upto_region 1 with fail
  change Code.wp _ _ _ _ (bx3 w W D J S ⟨4, p, q, v, x, y, s⟩)
  generalize bx3 w W D J S ⟨4, p, q, v, x, y, s⟩ = w0 at BX BF B0 Z hz H ⊢
  obtain ⟨_, b0, b1, b2, b3⟩ := BX
  obtain ⟨a0, a1, a2, a3, a4, a5, a6⟩ := BF.cells
  have la := BF.lt
  go_wp2_with fail
  refine (out_n (c := c) H.out HN.out HS.out HF.out HE.out).mono ?_
  rintro _ w1 ⟨A1, c1, rfl, hr1, z1⟩
  have HR1 := Lib.hid hr1
  have HZ1 := Lib.hid z1
  have B1 := B0.after z1
  obtain ⟨d0, d1, d2, d3, d4, d5, d6⟩ := B1.cells
  have lb := B1.lt
  have fz := B1.free
  have HZ := Lib.hid (Z.trans (z1.mono (by omega)))
  have hl2 : w.heap.size ≤ w.heap.size + 1 + 1 := by omega
  have HH2 := Lib.hid (show w.heap.size + 1 + 1 < w0.heap.size by omega)
  have HHZ := Lib.hid (show w.heap.size ≤ w0.heap.size by omega)
  clear hr1 z1 a0 a1 a2 a3 a4 a5 a6 la b0 b1 b2 b3 hz
  go_wp2
  change bodyPost _ _ _ _ _ (pf w1 (w.heap.size + 1 + 1) f')
  refine bodyPost_ret (results_fr Try.results12 _ rfl (B1.pf _)) rfl ?_
  exact ⟨A1, c1, rfl, (HR1.out.pf HH2.out _).mono HHZ.out, below_pf HZ.out hl2 _⟩
set_option maxRecDepth 100000 in
set_option maxHeartbeats 4000000 in
theorem istep_0 (W D J S : Int) (A : Option Addr) (n c : Nat) (l : List Int) (f : Fr) (l' : List Int) (f' : Fr) (w : World) (h : Rd w A l) (hn : l.length = n) (hs : n ≤ 500) (hu : UM l) (hf : UF f) (ho : ¬ f.op = 3 ∧ ¬ f.op = 4) (e : (l, f) = (l', f')) :
    Calls Try.prog 12 #[cf W D J S, .slice A n c, fv f] w (RetQ w.heap.size w n l' f') := by
  have H := Lib.hid h; clear h
  have HN := Lib.hid hn; clear hn
  have HS := Lib.hid hs; clear hs
  have HF := Lib.hid hf; clear hf
  have HU := Lib.hid hu; clear hu
  have HE := Lib.hid e; clear e
  obtain ⟨o, p, q, v, x, y, s⟩ := f
  simp only at ho
  have g0 : (o == 3) = false := by simpa using ho.1
  have g1 : (o == 4) = false := by simpa using ho.2
  clear ho
  obtain ⟨BX, BF, B0, Z, hz⟩ := boxes3 w W D J S ⟨o, p, q, v, x, y, s⟩
  have H := Lib.hid (H.out.below Z)
  go_enter Try.func12, Try.ntmps12
  go_upto_region 1 with fail
  change Code.wp _ _ _ _ (bx3 w W D J S ⟨o, p, q, v, x, y, s⟩)
  generalize bx3 w W D J S ⟨o, p, q, v, x, y, s⟩ = w0 at BX BF B0 Z hz H ⊢
  obtain ⟨_, b0, b1, b2, b3⟩ := BX
  obtain ⟨a0, a1, a2, a3, a4, a5, a6⟩ := BF.cells
  have la := BF.lt
  obtain ⟨e1, e2⟩ := Prod.mk.inj HE.out
  subst e1 e2
  obtain ⟨d0, d1, d2, d3, d4, d5, d6⟩ := B0.cells
  have lb := B0.lt
  have fz := B0.free
  have H1 : Rd w0.drew A l := H.out
  have hl2 : w.heap.size ≤ w.heap.size + 1 + 1 := by omega
  have HH2 := Lib.hid (show w.heap.size + 1 + 1 < w0.heap.size by omega)
  have HHZ := Lib.hid (show w.heap.size ≤ w0.heap.size by omega)
  have HLT := Lib.hid (show w.heap.size + 1 < w0.heap.size by omega)
  clear hz
  go_wp2
  go_region_with (go_at_call 29; (refine (clone_any A n c l _ H1 HN.out HS.out).mono ?_); rintro _ w1 ⟨A1, c1, rfl, hr1, z1⟩; have HR1 := Lib.hid hr1; have HZ1 := Lib.hid z1; have B1 := B0.drew.after z1; obtain ⟨d0, d1, d2, d3, d4, d5, d6⟩ := B1.cells; have lb := B1.lt; have fz := B1.free; obtain ⟨a0, a1, a2, a3, a4, a5, a6⟩ := (BF.drew.after z1).cells; have la := (BF.drew.after z1).lt; have HZ := Lib.hid (Z.drew.trans (z1.mono HHZ.out)); clear hr1 z1)
  all_goals
    go_wp2
    change bodyPost _ _ _ _ _ (pf w1 (w.heap.size + 1 + 1) ⟨o, p, q, v, x, y, s⟩)
    refine bodyPost_ret (results_fr Try.results12 _ rfl (B1.pf _)) rfl ?_
    exact ⟨A1, c1, rfl, (HR1.out.pf HH2.out _).mono HHZ.out, below_pf HZ.out hl2 _⟩
set_option maxRecDepth 100000 in
set_option maxHeartbeats 4000000 in
theorem ristep_3 (W D J S : Int) (A : Option Addr) (n c : Nat) (l : List Int) (f : Fr) (l' : List Int) (f' : Fr) (w : World) (h : Rd w A l) (hn : l.length = n) (hs : n ≤ 500) (hu : UM l) (hf : UF f) (ho : f.op = 3) (e : enqS W D J S l f = (l', f')) :
    Calls Try.prog 13 #[cf W D J S, .slice A n c, fv f] w (RetU w A l n l' f') := by
  have H := Lib.hid h; clear h
  have HN := Lib.hid hn; clear hn
  have HS := Lib.hid hs; clear hs
  have HF := Lib.hid hf; clear hf
  have HU := Lib.hid hu; clear hu
  have HE := Lib.hid e; clear e
  obtain ⟨o, p, q, v, x, y, s⟩ := f
  simp only at ho
  subst ho
  obtain ⟨BX, BF, B0, Z, hz⟩ := boxes3 w W D J S ⟨3, p, q, v, x, y, s⟩
  have H := Lib.hid (H.out.below Z)
  go_enter Try.func13, Try.ntmps13
  go_upto_region 1 with fail
  change Code.wp _ _ _ _ (bx3 w W D J S ⟨3, p, q, v, x, y, s⟩)
  generalize bx3 w W D J S ⟨3, p, q, v, x, y, s⟩ = w0 at BX BF B0 Z hz H ⊢
  obtain ⟨_, b0, b1, b2, b3⟩ := BX
  obtain ⟨a0, a1, a2, a3, a4, a5, a6⟩ := BF.cells
  have la := BF.lt
  go_wp2_with fail
  refine (rst_u (c := c) H.out HN.out HS.out HF.out HU.out HE.out).mono ?_
  rintro _ w1 ⟨A1, c1, rfl, hr1, z1⟩
  have HR1 := Lib.hid hr1
  have HZ1 := Lib.hid z1
  have B1 := B0.after z1
  obtain ⟨d0, d1, d2, d3, d4, d5, d6⟩ := B1.cells
  have lb := B1.lt
  have fz := B1.free
  have HZ := Lib.hid (Z.trans (z1.mono (by omega)))
  have hl2 : w.heap.size ≤ w.heap.size + 1 + 1 := by omega
  have HH2 := Lib.hid (show w.heap.size + 1 + 1 < w0.heap.size by omega)
  have HHZ := Lib.hid (show w.heap.size ≤ w0.heap.size by omega)
  clear hr1 z1 a0 a1 a2 a3 a4 a5 a6 la b0 b1 b2 b3 hz
  go_wp2
  go_region
  all_goals
    go_wp2
    change bodyPost _ _ _ _ _ ((pf w1 (w.heap.size + 1 + 1) f').alloc (.cells #[.int .i64 f'.op, .int .i64 f'.pc, .int .i64 f'.who, .int .u64 f'.val, .int .u64 f'.x, .int .u64 f'.y, .int .i64 f'.res] 28)).drew
    have BE : Bf ((pf w1 (w.heap.size + 1 + 1) f').alloc (.cells #[.int .i64 f'.op, .int .i64 f'.pc, .int .i64 f'.who, .int .u64 f'.val, .int .u64 f'.x, .int .u64 f'.y, .int .i64 f'.res] 28)).drew (w.heap.size + 1 + 1) f' := (Below.heap_alloc _ _ _ (B1.pf f').lt).trans (B1.pf f')
    refine bodyPost_ret (results_fr Try.results13 _ rfl BE) rfl ?_
    exact ⟨A1, c1, rfl, HR1.out.imp id (fun h => ((h.pfO HH2.out hl2 f').below (bel_alloc _ _)).drew), ((below_pf HZ.out hl2 f').alloc (below_pf HZ.out hl2 f').size _).drew⟩
set_option maxRecDepth 100000 in
set_option maxHeartbeats 4000000 in
theorem ristep_4 (W D J S : Int) (A : Option Addr) (n c : Nat) (l : List Int) (f : Fr) (l' : List Int) (f' : Fr) (w : World) (h : Rd w A l) (hn : l.length = n) (hs : n ≤ 500) (hu : UM l) (hf : UF f) (ho : f.op = 4) (e : outS W D J S l f = (l', f')) :
    Calls Try.prog 13 #[cf W D J S, .slice A n c, fv f] w (RetU w A l n l' f') := by
  have H := Lib.hid h; clear h
  have HN := Lib.hid hn; clear hn
  have HS := Lib.hid hs; clear hs
  have HF := Lib.hid hf; clear hf
  have HU := Lib.hid hu; clear hu
  have HE := Lib.hid e; clear e
  obtain ⟨o, p, q, v, x, y, s⟩ := f
  simp only at ho
  subst ho
  obtain ⟨BX, BF, B0, Z, hz⟩ := boxes3 w W D J S ⟨4, p, q, v, x, y, s⟩
  have H := Lib.hid (H.out.below Z)
  go_enter Try.func13, Try.ntmps13
  go_upto_region 1 with fail
  change Code.wp _ _ _ _ (bx3 w W D J S ⟨4, p, q, v, x, y, s⟩)
  generalize bx3 w W D J S ⟨4, p, q, v, x, y, s⟩ = w0 at BX BF B0 Z hz H ⊢
  obtain ⟨_, b0, b1, b2, b3⟩ := BX
  obtain ⟨a0, a1, a2, a3, a4, a5, a6⟩ := BF.cells
  have la := BF.lt
  go_wp2_with fail
  refine (rou_u (c := c) H.out HN.out HS.out HF.out HU.out HE.out).mono ?_
  rintro _ w1 ⟨A1, c1, rfl, hr1, z1⟩
  have HR1 := Lib.hid hr1
  have HZ1 := Lib.hid z1
  have B1 := B0.after z1
  obtain ⟨d0, d1, d2, d3, d4, d5, d6⟩ := B1.cells
  have lb := B1.lt
  have fz := B1.free
  have HZ := Lib.hid (Z.trans (z1.mono (by omega)))
  have hl2 : w.heap.size ≤ w.heap.size + 1 + 1 := by omega
  have HH2 := Lib.hid (show w.heap.size + 1 + 1 < w0.heap.size by omega)
  have HHZ := Lib.hid (show w.heap.size ≤ w0.heap.size by omega)
  clear hr1 z1 a0 a1 a2 a3 a4 a5 a6 la b0 b1 b2 b3 hz
  go_wp2
  go_region
  all_goals
    go_wp2
    change bodyPost _ _ _ _ _ ((pf w1 (w.heap.size + 1 + 1) f').alloc (.cells #[.int .i64 f'.op, .int .i64 f'.pc, .int .i64 f'.who, .int .u64 f'.val, .int .u64 f'.x, .int .u64 f'.y, .int .i64 f'.res] 28)).drew
    have BE : Bf ((pf w1 (w.heap.size + 1 + 1) f').alloc (.cells #[.int .i64 f'.op, .int .i64 f'.pc, .int .i64 f'.who, .int .u64 f'.val, .int .u64 f'.x, .int .u64 f'.y, .int .i64 f'.res] 28)).drew (w.heap.size + 1 + 1) f' := (Below.heap_alloc _ _ _ (B1.pf f').lt).trans (B1.pf f')
    refine bodyPost_ret (results_fr Try.results13 _ rfl BE) rfl ?_
    exact ⟨A1, c1, rfl, HR1.out.imp id (fun h => ((h.pfO HH2.out hl2 f').below (bel_alloc _ _)).drew), ((below_pf HZ.out hl2 f').alloc (below_pf HZ.out hl2 f').size _).drew⟩
set_option maxRecDepth 100000 in
set_option maxHeartbeats 4000000 in
theorem ristep_0 (W D J S : Int) (A : Option Addr) (n c : Nat) (l : List Int) (f : Fr) (l' : List Int) (f' : Fr) (w : World) (h : Rd w A l) (hn : l.length = n) (hs : n ≤ 500) (hu : UM l) (hf : UF f) (ho : ¬ f.op = 3 ∧ ¬ f.op = 4) (e : (l, f) = (l', f')) :
    Calls Try.prog 13 #[cf W D J S, .slice A n c, fv f] w (RetU w A l n l' f') := by
  have H := Lib.hid h; clear h
  have HN := Lib.hid hn; clear hn
  have HS := Lib.hid hs; clear hs
  have HF := Lib.hid hf; clear hf
  have HU := Lib.hid hu; clear hu
  have HE := Lib.hid e; clear e
  obtain ⟨o, p, q, v, x, y, s⟩ := f
  simp only at ho
  have g0 : (o == 3) = false := by simpa using ho.1
  have g1 : (o == 4) = false := by simpa using ho.2
  clear ho
  obtain ⟨BX, BF, B0, Z, hz⟩ := boxes3 w W D J S ⟨o, p, q, v, x, y, s⟩
  have H := Lib.hid (H.out.below Z)
  go_enter Try.func13, Try.ntmps13
  go_upto_region 1 with fail
  change Code.wp _ _ _ _ (bx3 w W D J S ⟨o, p, q, v, x, y, s⟩)
  generalize bx3 w W D J S ⟨o, p, q, v, x, y, s⟩ = w0 at BX BF B0 Z hz H ⊢
  obtain ⟨_, b0, b1, b2, b3⟩ := BX
  obtain ⟨a0, a1, a2, a3, a4, a5, a6⟩ := BF.cells
  have la := BF.lt
  obtain ⟨e1, e2⟩ := Prod.mk.inj HE.out
  subst e1 e2
  obtain ⟨d0, d1, d2, d3, d4, d5, d6⟩ := B0.cells
  have lb := B0.lt
  have fz := B0.free
  have HZ := Lib.hid Z
  have hl2 : w.heap.size ≤ w.heap.size + 1 + 1 := by omega
  clear hz Z H
  go_wp2
  go_region
  all_goals
    go_wp2
    change bodyPost _ _ _ _ _ (pf w0 (w.heap.size + 1 + 1) ⟨o, p, q, v, x, y, s⟩).drew
    refine bodyPost_ret (results_fr Try.results13 _ rfl ((B0.pf _).drew)) rfl ?_
    exact ⟨A, c, rfl, .inl ⟨rfl, rfl⟩, (below_pf HZ.out hl2 _).drew⟩
set_option maxRecDepth 100000 in
theorem insS_len (W D J S : Int) (m : List Int) (f : Fr) : (insS W D J S m f).1.length = m.length := by
  unfold insS
  split
  · exact enqS_len _ _ _ _ _ _
  split
  · exact outS_len _ _ _ _ _ _
  · rfl
set_option maxRecDepth 100000 in
theorem insS_U {W D J S : Int} {m : List Int} {f : Fr} (hm : UM m) (hf : UF f) : UM (insS W D J S m f).1 ∧ UF (insS W D J S m f).2 := by
  unfold insS
  split
  · exact enqS_U hm hf
  split
  · exact outS_U hm hf
  · exact ⟨hm, hf⟩
set_option maxRecDepth 100000 in
/-- A step, where the outcome is known. -/
theorem istep_n {W D J S : Int} {A : Option Addr} {n c : Nat} {l : List Int} {f : Fr} {w : World} (h : Rd w A l) (hn : l.length = n) (hs : n ≤ 500) (hu : UM l) (hf : UF f) {l' : List Int} {f' : Fr} (e : insS W D J S l f = (l', f')) :
    Calls Try.prog 12 #[cf W D J S, .slice A n c, fv f] w (RetQ w.heap.size w n l' f') := by
  unfold insS at e
  by_cases h0 : f.op = 3
  · rw [if_pos h0] at e; exact istep_3 W D J S A n c l f l' f' w h hn hs hu hf h0 e
  by_cases h1 : f.op = 4
  · rw [if_neg h0, if_pos h1] at e; exact istep_4 W D J S A n c l f l' f' w h hn hs hu hf h1 e
  rw [if_neg h0, if_neg h1] at e
  exact istep_0 W D J S A n c l f l' f' w h hn hs hu hf ⟨h0, h1⟩ e
set_option maxRecDepth 100000 in
/-- A step, where the outcome is known. -/
theorem ristep_n {W D J S : Int} {A : Option Addr} {n c : Nat} {l : List Int} {f : Fr} {w : World} (h : Rd w A l) (hn : l.length = n) (hs : n ≤ 500) (hu : UM l) (hf : UF f) {l' : List Int} {f' : Fr} (e : insS W D J S l f = (l', f')) :
    Calls Try.prog 13 #[cf W D J S, .slice A n c, fv f] w (RetU w A l n l' f') := by
  unfold insS at e
  by_cases h0 : f.op = 3
  · rw [if_pos h0] at e; exact ristep_3 W D J S A n c l f l' f' w h hn hs hu hf h0 e
  by_cases h1 : f.op = 4
  · rw [if_neg h0, if_pos h1] at e; exact ristep_4 W D J S A n c l f l' f' w h hn hs hu hf h1 e
  rw [if_neg h0, if_neg h1] at e
  exact ristep_0 W D J S A n c l f l' f' w h hn hs hu hf ⟨h0, h1⟩ e
end Go.Proofs.Ytppllanmgdhabaa
