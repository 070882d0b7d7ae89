/- Contracts of the deque's Step, of its layout and of no call, and of the document's own Step. -/
import Derived.Test.YtpeaahihjeplmaaDeL
import Derived.Test.YtpeaahihjeplmaaPuH2
import Derived.Test.YtpeaahihjeplmaaPoE
import Derived.Test.YtpeaahihjeplmaaStE
import Derived.Test.YtpeaahihjeplmaaDqB
import Derived.Test.YtpeaahihjeplmaaPuR2
import Derived.Test.YtpeaahihjeplmaaPoG
import Derived.Test.YtpeaahihjeplmaaStG
namespace Go.Proofs.Ytpeaahihjeplmaa
open Go.RowKit Go.Deep
set_option maxRecDepth 100000 in
set_option maxHeartbeats 4000000 in
theorem dstep_0 (W D J S : Int) (A : Option Addr) (n c : Nat) (l : List Int) (f : Fr) (l' : List Int) (f' : Fr) (w : World) (h : Rd w A l) (hn : l.length = n) (hs : n ≤ 500) (hu : UM l) (hf : UF f) (ho : f.op = 0) (e : pushS W D J S l f = (l', f')) :
    Calls Try.prog 11 #[cf W D J S, .slice A n c, fv f] w (RetQ w.heap.size w n l' f') := by
  have H := Lib.hid h; clear h
  have HN := Lib.hid hn; clear hn
  have HS := Lib.hid hs; clear hs
  have HF := Lib.hid hf; clear hf
  have HU := Lib.hid hu; clear hu
  have HE := Lib.hid e; clear e
  obtain ⟨o, p, q, v, x, y, s⟩ := f
  simp only at ho
  subst ho
  obtain ⟨BX, BF, B0, Z, hz⟩ := boxes3 w W D J S ⟨0, p, q, v, x, y, s⟩
  have H := Lib.hid (H.out.below Z)
  go_enter Try.func11, Try.ntmps11
  go_upto_region 1 with fail
  change Code.wp _ _ _ _ (bx3 w W D J S ⟨0, p, q, v, x, y, s⟩)
  generalize bx3 w W D J S ⟨0, p, q, v, x, y, s⟩ = w0 at BX BF B0 Z hz H ⊢
  obtain ⟨_, b0, b1, b2, b3⟩ := BX
  obtain ⟨a0, a1, a2, a3, a4, a5, a6⟩ := BF.cells
  have la := BF.lt
  go_wp2_with fail
  refine (step_n (c := c) H.out HN.out HS.out HF.out HE.out).mono ?_
  rintro _ w1 ⟨A1, c1, rfl, hr1, z1⟩
  have HR1 := Lib.hid hr1
  have HZ1 := Lib.hid z1
  have B1 := B0.after z1
  obtain ⟨d0, d1, d2, d3, d4, d5, d6⟩ := B1.cells
  have lb := B1.lt
  have fz := B1.free
  have HZ := Lib.hid (Z.trans (z1.mono (by omega)))
  have hl2 : w.heap.size ≤ w.heap.size + 1 + 1 := by omega
  have HH2 := Lib.hid (show w.heap.size + 1 + 1 < w0.heap.size by omega)
  have HHZ := Lib.hid (show w.heap.size ≤ w0.heap.size by omega)
  clear hr1 z1 a0 a1 a2 a3 a4 a5 a6 la b0 b1 b2 b3 hz
  go_wp2
  change bodyPost _ _ _ _ _ (pf w1 (w.heap.size + 1 + 1) f')
  refine bodyPost_ret (results_fr Try.results11 _ rfl (B1.pf _)) rfl ?_
  exact ⟨A1, c1, rfl, (HR1.out.pf HH2.out _).mono HHZ.out, below_pf HZ.out hl2 _⟩
set_option maxRecDepth 100000 in
set_option maxHeartbeats 4000000 in
theorem dstep_1 (W D J S : Int) (A : Option Addr) (n c : Nat) (l : List Int) (f : Fr) (l' : List Int) (f' : Fr) (w : World) (h : Rd w A l) (hn : l.length = n) (hs : n ≤ 500) (hu : UM l) (hf : UF f) (ho : f.op = 1) (e : popS W D J S l f = (l', f')) :
    Calls Try.prog 11 #[cf W D J S, .slice A n c, fv f] w (RetQ w.heap.size w n l' f') := by
  have H := Lib.hid h; clear h
  have HN := Lib.hid hn; clear hn
  have HS := Lib.hid hs; clear hs
  have HF := Lib.hid hf; clear hf
  have HU := Lib.hid hu; clear hu
  have HE := Lib.hid e; clear e
  obtain ⟨o, p, q, v, x, y, s⟩ := f
  simp only at ho
  subst ho
  obtain ⟨BX, BF, B0, Z, hz⟩ := boxes3 w W D J S ⟨1, p, q, v, x, y, s⟩
  have H := Lib.hid (H.out.below Z)
  go_enter Try.func11, Try.ntmps11
  go_upto_region 1 with fail
  change Code.wp _ _ _ _ (bx3 w W D J S ⟨1, p, q, v, x, y, s⟩)
  generalize bx3 w W D J S ⟨1, p, q, v, x, y, s⟩ = w0 at BX BF B0 Z hz H ⊢
  obtain ⟨_, b0, b1, b2, b3⟩ := BX
  obtain ⟨a0, a1, a2, a3, a4, a5, a6⟩ := BF.cells
  have la := BF.lt
  go_wp2_with fail
  refine (pop_n (c := c) H.out HN.out HS.out HF.out HE.out).mono ?_
  rintro _ w1 ⟨A1, c1, rfl, hr1, z1⟩
  have HR1 := Lib.hid hr1
  have HZ1 := Lib.hid z1
  have B1 := B0.after z1
  obtain ⟨d0, d1, d2, d3, d4, d5, d6⟩ := B1.cells
  have lb := B1.lt
  have fz := B1.free
  have HZ := Lib.hid (Z.trans (z1.mono (by omega)))
  have hl2 : w.heap.size ≤ w.heap.size + 1 + 1 := by omega
  have HH2 := Lib.hid (show w.heap.size + 1 + 1 < w0.heap.size by omega)
  have HHZ := Lib.hid (show w.heap.size ≤ w0.heap.size by omega)
  clear hr1 z1 a0 a1 a2 a3 a4 a5 a6 la b0 b1 b2 b3 hz
  go_wp2
  change bodyPost _ _ _ _ _ (pf w1 (w.heap.size + 1 + 1) f')
  refine bodyPost_ret (results_fr Try.results11 _ rfl (B1.pf _)) rfl ?_
  exact ⟨A1, c1, rfl, (HR1.out.pf HH2.out _).mono HHZ.out, below_pf HZ.out hl2 _⟩
set_option maxRecDepth 100000 in
set_option maxHeartbeats 4000000 in
theorem dstep_2 (W D J S : Int) (A : Option Addr) (n c : Nat) (l : List Int) (f : Fr) (l' : List Int) (f' : Fr) (w : World) (h : Rd w A l) (hn : l.length = n) (hs : n ≤ 500) (hu : UM l) (hf : UF f) (ho : f.op = 2) (e : stealS W D J S l f = (l', f')) :
    Calls Try.prog 11 #[cf W D J S, .slice A n c, fv f] w (RetQ w.heap.size w n l' f') := by
  have H := Lib.hid h; clear h
  have HN := Lib.hid hn; clear hn
  have HS := Lib.hid hs; clear hs
  have HF := Lib.hid hf; clear hf
  have HU := Lib.hid hu; clear hu
  have HE := Lib.hid e; clear e
  obtain ⟨o, p, q, v, x, y, s⟩ := f
  simp only at ho
  subst ho
  obtain ⟨BX, BF, B0, Z, hz⟩ := boxes3 w W D J S ⟨2, p, q, v, x, y, s⟩
  have H := Lib.hid (H.out.below Z)
  go_enter Try.func11, Try.ntmps11
  go_upto_region 1 with fail
  change Code.wp _ _ _ _ (bx3 w W D J S ⟨2, p, q, v, x, y, s⟩)
  generalize bx3 w W D J S ⟨2, p, q, v, x, y, s⟩ = w0 at BX BF B0 Z hz H ⊢
  obtain ⟨_, b0, b1, b2, b3⟩ := BX
  obtain ⟨a0, a1, a2, a3, a4, a5, a6⟩ := BF.cells
  have la := BF.lt
  go_wp2_with fail
  refine (steal_n (c := c) H.out HN.out HS.out HF.out HE.out).mono ?_
  rintro _ w1 ⟨A1, c1, rfl, hr1, z1⟩
  have HR1 := Lib.hid hr1
  have HZ1 := Lib.hid z1
  have B1 := B0.after z1
  obtain ⟨d0, d1, d2, d3, d4, d5, d6⟩ := B1.cells
  have lb := B1.lt
  have fz := B1.free
  have HZ := Lib.hid (Z.trans (z1.mono (by omega)))
  have hl2 : w.heap.size ≤ w.heap.size + 1 + 1 := by omega
  have HH2 := Lib.hid (show w.heap.size + 1 + 1 < w0.heap.size by omega)
  have HHZ := Lib.hid (show w.heap.size ≤ w0.heap.size by omega)
  clear hr1 z1 a0 a1 a2 a3 a4 a5 a6 la b0 b1 b2 b3 hz
  go_wp2
  change bodyPost _ _ _ _ _ (pf w1 (w.heap.size + 1 + 1) f')
  refine bodyPost_ret (results_fr Try.results11 _ rfl (B1.pf _)) rfl ?_
  exact ⟨A1, c1, rfl, (HR1.out.pf HH2.out _).mono HHZ.out, below_pf HZ.out hl2 _⟩
set_option maxRecDepth 100000 in
set_option maxHeartbeats 4000000 in
theorem dstep_3 (W D J S : Int) (A : Option Addr) (n c : Nat) (l : List Int) (f : Fr) (l' : List Int) (f' : Fr) (w : World) (h : Rd w A l) (hn : l.length = n) (hs : n ≤ 500) (hu : UM l) (hf : UF f) (ho : ¬ f.op = 0 ∧ ¬ f.op = 1 ∧ ¬ f.op = 2) (e : (l, f) = (l', f')) :
    Calls Try.prog 11 #[cf W D J S, .slice A n c, fv f] w (RetQ w.heap.size w n l' f') := by
  have H := Lib.hid h; clear h
  have HN := Lib.hid hn; clear hn
  have HS := Lib.hid hs; clear hs
  have HF := Lib.hid hf; clear hf
  have HU := Lib.hid hu; clear hu
  have HE := Lib.hid e; clear e
  obtain ⟨o, p, q, v, x, y, s⟩ := f
  simp only at ho
  have g0 : (o == 0) = false := by simpa using ho.1
  have g1 : (o == 1) = false := by simpa using ho.2.1
  have g2 : (o == 2) = false := by simpa using ho.2.2
  clear ho
  obtain ⟨BX, BF, B0, Z, hz⟩ := boxes3 w W D J S ⟨o, p, q, v, x, y, s⟩
  have H := Lib.hid (H.out.below Z)
  go_enter Try.func11, Try.ntmps11
  go_upto_region 1 with fail
  change Code.wp _ _ _ _ (bx3 w W D J S ⟨o, p, q, v, x, y, s⟩)
  generalize bx3 w W D J S ⟨o, p, q, v, x, y, s⟩ = w0 at BX BF B0 Z hz H ⊢
  obtain ⟨_, b0, b1, b2, b3⟩ := BX
  obtain ⟨a0, a1, a2, a3, a4, a5, a6⟩ := BF.cells
  have la := BF.lt
  obtain ⟨e1, e2⟩ := Prod.mk.inj HE.out
  subst e1 e2
  obtain ⟨d0, d1, d2, d3, d4, d5, d6⟩ := B0.cells
  have lb := B0.lt
  have fz := B0.free
  have H1 : Rd w0.drew A l := H.out
  have hl2 : w.heap.size ≤ w.heap.size + 1 + 1 := by omega
  have HH2 := Lib.hid (show w.heap.size + 1 + 1 < w0.heap.size by omega)
  have HHZ := Lib.hid (show w.heap.size ≤ w0.heap.size by omega)
  have HLT := Lib.hid (show w.heap.size + 1 < w0.heap.size by omega)
  clear hz
  go_wp2
  go_region_with (go_at_call 28; (refine (clone_any A n c l _ H1 HN.out HS.out).mono ?_); rintro _ w1 ⟨A1, c1, rfl, hr1, z1⟩; have HR1 := Lib.hid hr1; have HZ1 := Lib.hid z1; have B1 := B0.drew.after z1; obtain ⟨d0, d1, d2, d3, d4, d5, d6⟩ := B1.cells; have lb := B1.lt; have fz := B1.free; obtain ⟨a0, a1, a2, a3, a4, a5, a6⟩ := (BF.drew.after z1).cells; have la := (BF.drew.after z1).lt; have HZ := Lib.hid (Z.drew.trans (z1.mono HHZ.out)); clear hr1 z1)
  all_goals
    go_wp2
    change bodyPost _ _ _ _ _ (pf w1 (w.heap.size + 1 + 1) ⟨o, p, q, v, x, y, s⟩)
    refine bodyPost_ret (results_fr Try.results11 _ rfl (B1.pf _)) rfl ?_
    exact ⟨A1, c1, rfl, (HR1.out.pf HH2.out _).mono HHZ.out, below_pf HZ.out hl2 _⟩
set_option maxRecDepth 100000 in
set_option maxHeartbeats 4000000 in
theorem rdstep_0 (W D J S : Int) (A : Option Addr) (n c : Nat) (l : List Int) (f : Fr) (l' : List Int) (f' : Fr) (w : World) (h : Rd w A l) (hn : l.length = n) (hs : n ≤ 500) (hu : UM l) (hf : UF f) (ho : f.op = 0) (e : pushS W D J S l f = (l', f')) :
    Calls Try.prog 12 #[cf W D J S, .slice A n c, fv f] w (RetU w A l n l' f') := by
  have H := Lib.hid h; clear h
  have HN := Lib.hid hn; clear hn
  have HS := Lib.hid hs; clear hs
  have HF := Lib.hid hf; clear hf
  have HU := Lib.hid hu; clear hu
  have HE := Lib.hid e; clear e
  obtain ⟨o, p, q, v, x, y, s⟩ := f
  simp only at ho
  subst ho
  obtain ⟨BX, BF, B0, Z, hz⟩ := boxes3 w W D J S ⟨0, p, q, v, x, y, s⟩
  have H := Lib.hid (H.out.below Z)
  go_enter Try.func12, Try.ntmps12
  go_upto_region 1 with fail
  change Code.wp _ _ _ _ (bx3 w W D J S ⟨0, p, q, v, x, y, s⟩)
  generalize bx3 w W D J S ⟨0, p, q, v, x, y, s⟩ = w0 at BX BF B0 Z hz H ⊢
  obtain ⟨_, b0, b1, b2, b3⟩ := BX
  obtain ⟨a0, a1, a2, a3, a4, a5, a6⟩ := BF.cells
  have la := BF.lt
  go_wp2_with fail
  refine (rstep_u W D J S A n c l _ _ H.out HN.out HS.out HF.out HE.out).mono ?_
  rintro _ w1 ⟨A1, c1, rfl, hr1, z1⟩
  have HR1 := Lib.hid hr1
  have HZ1 := Lib.hid z1
  have B1 := B0.after z1
  obtain ⟨d0, d1, d2, d3, d4, d5, d6⟩ := B1.cells
  have lb := B1.lt
  have fz := B1.free
  have HZ := Lib.hid (Z.trans (z1.mono (by omega)))
  have hl2 : w.heap.size ≤ w.heap.size + 1 + 1 := by omega
  have HH2 := Lib.hid (show w.heap.size + 1 + 1 < w0.heap.size by omega)
  have HHZ := Lib.hid (show w.heap.size ≤ w0.heap.size by omega)
  clear hr1 z1 a0 a1 a2 a3 a4 a5 a6 la b0 b1 b2 b3 hz
  go_wp2
  go_region
  all_goals
    go_wp2
    change bodyPost _ _ _ _ _ ((pf w1 (w.heap.size + 1 + 1) f').alloc (.cells #[.int .i64 f'.op, .int .i64 f'.pc, .int .i64 f'.who, .int .u64 f'.val, .int .u64 f'.x, .int .u64 f'.y, .int .i64 f'.res] 28)).drew
    have BE : Bf ((pf w1 (w.heap.size + 1 + 1) f').alloc (.cells #[.int .i64 f'.op, .int .i64 f'.pc, .int .i64 f'.who, .int .u64 f'.val, .int .u64 f'.x, .int .u64 f'.y, .int .i64 f'.res] 28)).drew (w.heap.size + 1 + 1) f' := (Below.heap_alloc _ _ _ (B1.pf f').lt).trans (B1.pf f')
    refine bodyPost_ret (results_fr Try.results12 _ rfl BE) rfl ?_
    exact ⟨A1, c1, rfl, HR1.out.imp id (fun h => ((h.pfO HH2.out hl2 f').below (bel_alloc _ _)).drew), ((below_pf HZ.out hl2 f').alloc (below_pf HZ.out hl2 f').size _).drew⟩
set_option maxRecDepth 100000 in
set_option maxHeartbeats 4000000 in
theorem rdstep_1 (W D J S : Int) (A : Option Addr) (n c : Nat) (l : List Int) (f : Fr) (l' : List Int) (f' : Fr) (w : World) (h : Rd w A l) (hn : l.length = n) (hs : n ≤ 500) (hu : UM l) (hf : UF f) (ho : f.op = 1) (e : popS W D J S l f = (l', f')) :
    Calls Try.prog 12 #[cf W D J S, .slice A n c, fv f] w (RetU w A l n l' f') := by
  have H := Lib.hid h; clear h
  have HN := Lib.hid hn; clear hn
  have HS := Lib.hid hs; clear hs
  have HF := Lib.hid hf; clear hf
  have HU := Lib.hid hu; clear hu
  have HE := Lib.hid e; clear e
  obtain ⟨o, p, q, v, x, y, s⟩ := f
  simp only at ho
  subst ho
  obtain ⟨BX, BF, B0, Z, hz⟩ := boxes3 w W D J S ⟨1, p, q, v, x, y, s⟩
  have H := Lib.hid (H.out.below Z)
  go_enter Try.func12, Try.ntmps12
  go_upto_region 1 with fail
  change Code.wp _ _ _ _ (bx3 w W D J S ⟨1, p, q, v, x, y, s⟩)
  generalize bx3 w W D J S ⟨1, p, q, v, x, y, s⟩ = w0 at BX BF B0 Z hz H ⊢
  obtain ⟨_, b0, b1, b2, b3⟩ := BX
  obtain ⟨a0, a1, a2, a3, a4, a5, a6⟩ := BF.cells
  have la := BF.lt
  go_wp2_with fail
  refine (rpop_u (c := c) H.out HN.out HS.out HU.out HF.out HE.out).mono ?_
  rintro _ w1 ⟨A1, c1, rfl, hr1, z1⟩
  have HR1 := Lib.hid hr1
  have HZ1 := Lib.hid z1
  have B1 := B0.after z1
  obtain ⟨d0, d1, d2, d3, d4, d5, d6⟩ := B1.cells
  have lb := B1.lt
  have fz := B1.free
  have HZ := Lib.hid (Z.trans (z1.mono (by omega)))
  have hl2 : w.heap.size ≤ w.heap.size + 1 + 1 := by omega
  have HH2 := Lib.hid (show w.heap.size + 1 + 1 < w0.heap.size by omega)
  have HHZ := Lib.hid (show w.heap.size ≤ w0.heap.size by omega)
  clear hr1 z1 a0 a1 a2 a3 a4 a5 a6 la b0 b1 b2 b3 hz
  go_wp2
  go_region
  all_goals
    go_wp2
    change bodyPost _ _ _ _ _ ((pf w1 (w.heap.size + 1 + 1) f').alloc (.cells #[.int .i64 f'.op, .int .i64 f'.pc, .int .i64 f'.who, .int .u64 f'.val, .int .u64 f'.x, .int .u64 f'.y, .int .i64 f'.res] 28)).drew
    have BE : Bf ((pf w1 (w.heap.size + 1 + 1) f').alloc (.cells #[.int .i64 f'.op, .int .i64 f'.pc, .int .i64 f'.who, .int .u64 f'.val, .int .u64 f'.x, .int .u64 f'.y, .int .i64 f'.res] 28)).drew (w.heap.size + 1 + 1) f' := (Below.heap_alloc _ _ _ (B1.pf f').lt).trans (B1.pf f')
    refine bodyPost_ret (results_fr Try.results12 _ rfl BE) rfl ?_
    exact ⟨A1, c1, rfl, HR1.out.imp id (fun h => ((h.pfO HH2.out hl2 f').below (bel_alloc _ _)).drew), ((below_pf HZ.out hl2 f').alloc (below_pf HZ.out hl2 f').size _).drew⟩
set_option maxRecDepth 100000 in
set_option maxHeartbeats 4000000 in
theorem rdstep_2 (W D J S : Int) (A : Option Addr) (n c : Nat) (l : List Int) (f : Fr) (l' : List Int) (f' : Fr) (w : World) (h : Rd w A l) (hn : l.length = n) (hs : n ≤ 500) (hu : UM l) (hf : UF f) (ho : f.op = 2) (e : stealS W D J S l f = (l', f')) :
    Calls Try.prog 12 #[cf W D J S, .slice A n c, fv f] w (RetU w A l n l' f') := by
  have H := Lib.hid h; clear h
  have HN := Lib.hid hn; clear hn
  have HS := Lib.hid hs; clear hs
  have HF := Lib.hid hf; clear hf
  have HU := Lib.hid hu; clear hu
  have HE := Lib.hid e; clear e
  obtain ⟨o, p, q, v, x, y, s⟩ := f
  simp only at ho
  subst ho
  obtain ⟨BX, BF, B0, Z, hz⟩ := boxes3 w W D J S ⟨2, p, q, v, x, y, s⟩
  have H := Lib.hid (H.out.below Z)
  go_enter Try.func12, Try.ntmps12
  go_upto_region 1 with fail
  change Code.wp _ _ _ _ (bx3 w W D J S ⟨2, p, q, v, x, y, s⟩)
  generalize bx3 w W D J S ⟨2, p, q, v, x, y, s⟩ = w0 at BX BF B0 Z hz H ⊢
  obtain ⟨_, b0, b1, b2, b3⟩ := BX
  obtain ⟨a0, a1, a2, a3, a4, a5, a6⟩ := BF.cells
  have la := BF.lt
  go_wp2_with fail
  refine (rsteal_u (c := c) H.out HN.out HS.out HU.out HF.out HE.out).mono ?_
  rintro _ w1 ⟨A1, c1, rfl, hr1, z1⟩
  have HR1 := Lib.hid hr1
  have HZ1 := Lib.hid z1
  have B1 := B0.after z1
  obtain ⟨d0, d1, d2, d3, d4, d5, d6⟩ := B1.cells
  have lb := B1.lt
  have fz := B1.free
  have HZ := Lib.hid (Z.trans (z1.mono (by omega)))
  have hl2 : w.heap.size ≤ w.heap.size + 1 + 1 := by omega
  have HH2 := Lib.hid (show w.heap.size + 1 + 1 < w0.heap.size by omega)
  have HHZ := Lib.hid (show w.heap.size ≤ w0.heap.size by omega)
  clear hr1 z1 a0 a1 a2 a3 a4 a5 a6 la b0 b1 b2 b3 hz
  go_wp2
  go_region
  all_goals
    go_wp2
    change bodyPost _ _ _ _ _ ((pf w1 (w.heap.size + 1 + 1) f').alloc (.cells #[.int .i64 f'.op, .int .i64 f'.pc, .int .i64 f'.who, .int .u64 f'.val, .int .u64 f'.x, .int .u64 f'.y, .int .i64 f'.res] 28)).drew
    have BE : Bf ((pf w1 (w.heap.size + 1 + 1) f').alloc (.cells #[.int .i64 f'.op, .int .i64 f'.pc, .int .i64 f'.who, .int .u64 f'.val, .int .u64 f'.x, .int .u64 f'.y, .int .i64 f'.res] 28)).drew (w.heap.size + 1 + 1) f' := (Below.heap_alloc _ _ _ (B1.pf f').lt).trans (B1.pf f')
    refine bodyPost_ret (results_fr Try.results12 _ rfl BE) rfl ?_
    exact ⟨A1, c1, rfl, HR1.out.imp id (fun h => ((h.pfO HH2.out hl2 f').below (bel_alloc _ _)).drew), ((below_pf HZ.out hl2 f').alloc (below_pf HZ.out hl2 f').size _).drew⟩
set_option maxRecDepth 100000 in
set_option maxHeartbeats 4000000 in
theorem rdstep_3 (W D J S : Int) (A : Option Addr) (n c : Nat) (l : List Int) (f : Fr) (l' : List Int) (f' : Fr) (w : World) (h : Rd w A l) (hn : l.length = n) (hs : n ≤ 500) (hu : UM l) (hf : UF f) (ho : ¬ f.op = 0 ∧ ¬ f.op = 1 ∧ ¬ f.op = 2) (e : (l, f) = (l', f')) :
    Calls Try.prog 12 #[cf W D J S, .slice A n c, fv f] w (RetU w A l n l' f') := by
  have H := Lib.hid h; clear h
  have HN := Lib.hid hn; clear hn
  have HS := Lib.hid hs; clear hs
  have HF := Lib.hid hf; clear hf
  have HU := Lib.hid hu; clear hu
  have HE := Lib.hid e; clear e
  obtain ⟨o, p, q, v, x, y, s⟩ := f
  simp only at ho
  have g0 : (o == 0) = false := by simpa using ho.1
  have g1 : (o == 1) = false := by simpa using ho.2.1
  have g2 : (o == 2) = false := by simpa using ho.2.2
  clear ho
  obtain ⟨BX, BF, B0, Z, hz⟩ := boxes3 w W D J S ⟨o, p, q, v, x, y, s⟩
  have H := Lib.hid (H.out.below Z)
  go_enter Try.func12, Try.ntmps12
  go_upto_region 1 with fail
  change Code.wp _ _ _ _ (bx3 w W D J S ⟨o, p, q, v, x, y, s⟩)
  generalize bx3 w W D J S ⟨o, p, q, v, x, y, s⟩ = w0 at BX BF B0 Z hz H ⊢
  obtain ⟨_, b0, b1, b2, b3⟩ := BX
  obtain ⟨a0, a1, a2, a3, a4, a5, a6⟩ := BF.cells
  have la := BF.lt
  obtain ⟨e1, e2⟩ := Prod.mk.inj HE.out
  subst e1 e2
  obtain ⟨d0, d1, d2, d3, d4, d5, d6⟩ := B0.cells
  have lb := B0.lt
  have fz := B0.free
  have HZ := Lib.hid Z
  have hl2 : w.heap.size ≤ w.heap.size + 1 + 1 := by omega
  clear hz Z H
  go_wp2
  go_region
  all_goals
    go_wp2
    change bodyPost _ _ _ _ _ (pf w0 (w.heap.size + 1 + 1) ⟨o, p, q, v, x, y, s⟩).drew
    refine bodyPost_ret (results_fr Try.results12 _ rfl ((B0.pf _).drew)) rfl ?_
    exact ⟨A, c, rfl, .inl ⟨rfl, rfl⟩, (below_pf HZ.out hl2 _).drew⟩
theorem deqS_len (W D J S : Int) (m : List Int) (f : Fr) : (deqS W D J S m f).1.length = m.length := by
  unfold deqS
  split
  · exact pushS_len _ _ _ _ _ _
  split
  · exact popS_len _ _ _ _ _ _
  split
  · exact stealS_len _ _ _ _ _ _
  · rfl
theorem deqS_U {W D J S : Int} {m : List Int} {f : Fr} (hm : UM m) (hf : UF f) : UM (deqS W D J S m f).1 ∧ UF (deqS W D J S m f).2 := by
  unfold deqS
  split
  · exact pushS_U hm hf
  split
  · exact popS_U hm hf
  split
  · exact stealS_U hm hf
  · exact ⟨hm, hf⟩
/-- A step, where the outcome is known. -/
theorem dstep_n {W D J S : Int} {A : Option Addr} {n c : Nat} {l : List Int} {f : Fr} {w : World} (h : Rd w A l) (hn : l.length = n) (hs : n ≤ 500) (hu : UM l) (hf : UF f) {l' : List Int} {f' : Fr} (e : deqS W D J S l f = (l', f')) :
    Calls Try.prog 11 #[cf W D J S, .slice A n c, fv f] w (RetQ w.heap.size w n l' f') := by
  unfold deqS at e
  by_cases h0 : f.op = 0
  · rw [if_pos h0] at e; exact dstep_0 W D J S A n c l f l' f' w h hn hs hu hf h0 e
  by_cases h1 : f.op = 1
  · rw [if_neg h0, if_pos h1] at e; exact dstep_1 W D J S A n c l f l' f' w h hn hs hu hf h1 e
  by_cases h2 : f.op = 2
  · rw [if_neg h0, if_neg h1, if_pos h2] at e; exact dstep_2 W D J S A n c l f l' f' w h hn hs hu hf h2 e
  rw [if_neg h0, if_neg h1, if_neg h2] at e
  exact dstep_3 W D J S A n c l f l' f' w h hn hs hu hf ⟨h0, h1, h2⟩ e
/-- A step, where the outcome is known. -/
theorem rdstep_n {W D J S : Int} {A : Option Addr} {n c : Nat} {l : List Int} {f : Fr} {w : World} (h : Rd w A l) (hn : l.length = n) (hs : n ≤ 500) (hu : UM l) (hf : UF f) {l' : List Int} {f' : Fr} (e : deqS W D J S l f = (l', f')) :
    Calls Try.prog 12 #[cf W D J S, .slice A n c, fv f] w (RetU w A l n l' f') := by
  unfold deqS at e
  by_cases h0 : f.op = 0
  · rw [if_pos h0] at e; exact rdstep_0 W D J S A n c l f l' f' w h hn hs hu hf h0 e
  by_cases h1 : f.op = 1
  · rw [if_neg h0, if_pos h1] at e; exact rdstep_1 W D J S A n c l f l' f' w h hn hs hu hf h1 e
  by_cases h2 : f.op = 2
  · rw [if_neg h0, if_neg h1, if_pos h2] at e; exact rdstep_2 W D J S A n c l f l' f' w h hn hs hu hf h2 e
  rw [if_neg h0, if_neg h1, if_neg h2] at e
  exact rdstep_3 W D J S A n c l f l' f' w h hn hs hu hf ⟨h0, h1, h2⟩ e
end Go.Proofs.Ytpeaahihjeplmaa
