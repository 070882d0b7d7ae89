/- Contracts of the event's layout, of no call, of Step, of atEvent, and of what finds the next call. -/
import Derived.Test.YtgemaeibmgkneaaEvA
import Derived.Test.YtgemaeibmgkneaaFrH2
import Derived.Test.YtgemaeibmgkneaaLayA
import Derived.Test.YtgemaeibmgkneaaWtE
import Derived.Test.YtgemaeibmgkneaaNtD
import Derived.Test.YtgemaeibmgkneaaPuH2
import Derived.Deep.CutRange
import Derived.Deep.DeepCutAuto
namespace Go.Proofs.Ytgemaeibmgkneaa
open Go.RowKit Go.Deep
set_option maxRecDepth 100000 in
theorem layout_any (d : Int) (w : World) : Tells 20 #[.int .i64 d] w (cf d 1 1 0) := by
  go_enter Try.func20, Try.ntmps20
  go_wp2
  refine bodyPost_ret (by simp [results, Try.results20, go_sem]; try rfl) rfl ?_
  exact ⟨rfl, (Below.refl _ _).alloc (Nat.le_refl _) _⟩
set_option maxRecDepth 100000 in
theorem nocall_any (w : World) : Tells 24 #[] w (fv fnE) := by
  have B0 : Bf (w.alloc (.cells #[.int .i64 0, .int .i64 0, .int .i64 0, .int .u64 0, .int .u64 0, .int .u64 0, .int .i64 0] 34)) w.heap.size f0 := heap_alloc_new _ _
  have Z : Below w.heap.size w (w.alloc (.cells #[.int .i64 0, .int .i64 0, .int .i64 0, .int .u64 0, .int .u64 0, .int .u64 0, .int .i64 0] 34)) := (Below.refl _ _).alloc (Nat.le_refl _) _
  have hz : w.heap.size < (w.alloc (.cells #[.int .i64 0, .int .i64 0, .int .i64 0, .int .u64 0, .int .u64 0, .int .u64 0, .int .i64 0] 34)).heap.size := by simp
  go_enter Try.func24, Try.ntmps24
  go_upto_region 1 with fail
  generalize w.alloc (.cells #[.int .i64 0, .int .i64 0, .int .i64 0, .int .u64 0, .int .u64 0, .int .u64 0, .int .i64 0] 34) = w0 at B0 Z hz ⊢
  go_wp2_with fail
  refine (begin_any (-1) 0 0 _).mono ?_
  rintro _ w1 ⟨rfl, z1⟩
  have B1 := B0.below z1 hz
  have Z1 := Lib.hid (Z.trans (z1.mono (by omega)))
  obtain ⟨d0, d1, d2, d3, d4, d5, d6⟩ := B1.cells
  have lb := B1.lt
  have fz := B1.free
  clear z1
  go_wp2
  change bodyPost _ _ _ _ _ (pf w1 w.heap.size fnE)
  refine bodyPost_ret (v := fv fnE) ?_ rfl ?_
  · obtain ⟨e0, e1, e2, e3, e4, e5, e6⟩ := (B1.pf fnE).cells
    simp [results, Try.results24, go_sem, e0, e1, e2, e3, e4, e5, e6]
    try rfl
  · exact ⟨rfl, below_pf Z1.out (Nat.le_refl _) _⟩
set_option maxRecDepth 100000 in
set_option maxHeartbeats 4000000 in
theorem estep_5 (W D J S : Int) (A : Option Addr) (n c : Nat) (l : List Int) (f : Fr) (l' : List Int) (f' : Fr) (w : World) (h : Rd w A l) (hn : l.length = n) (hs : n ≤ 500) (hu : UM l) (hf : UF f) (ho : f.op = 5) (e : waitS W D J S l f = (l', f')) :
    Calls Try.prog 27 #[cf W D J S, .slice A n c, fv f] w (RetQ w.heap.size w n l' f') := by
  have H := Lib.hid h; clear h
  have HN := Lib.hid hn; clear hn
  have HS := Lib.hid hs; clear hs
  have HF := Lib.hid hf; clear hf
  have HU := Lib.hid hu; clear hu
  have HE := Lib.hid e; clear e
  obtain ⟨o, p, q, v, x, y, s⟩ := f
  simp only at ho
  subst ho
  obtain ⟨BX, BF, B0, Z, hz⟩ := boxes3 w W D J S ⟨5, p, q, v, x, y, s⟩
  have H := Lib.hid (H.out.below Z)
  go_enter Try.func27, Try.ntmps27
  go_upto_region 1 with fail
  change Code.wp _ _ _ _ (bx3 w W D J S ⟨5, p, q, v, x, y, s⟩)
  generalize bx3 w W D J S ⟨5, p, q, v, x, y, s⟩ = w0 at BX BF B0 Z hz H ⊢
  obtain ⟨_, b0, b1, b2, b3⟩ := BX
  obtain ⟨a0, a1, a2, a3, a4, a5, a6⟩ := BF.cells
  have la := BF.lt
  go_wp2_with fail
  refine (wait_n (c := c) H.out HN.out HS.out HF.out HE.out).mono ?_
  rintro _ w1 ⟨A1, c1, rfl, hr1, z1⟩
  have HR1 := Lib.hid hr1
  have HZ1 := Lib.hid z1
  have B1 := B0.after z1
  obtain ⟨d0, d1, d2, d3, d4, d5, d6⟩ := B1.cells
  have lb := B1.lt
  have fz := B1.free
  have HZ := Lib.hid (Z.trans (z1.mono (by omega)))
  have hl2 : w.heap.size ≤ w.heap.size + 1 + 1 := by omega
  have HH2 := Lib.hid (show w.heap.size + 1 + 1 < w0.heap.size by omega)
  have HHZ := Lib.hid (show w.heap.size ≤ w0.heap.size by omega)
  clear hr1 z1 a0 a1 a2 a3 a4 a5 a6 la b0 b1 b2 b3 hz
  go_wp2
  change bodyPost _ _ _ _ _ (pf w1 (w.heap.size + 1 + 1) f')
  refine bodyPost_ret (results_fr Try.results27 _ rfl (B1.pf _)) rfl ?_
  exact ⟨A1, c1, rfl, (HR1.out.pf HH2.out _).mono HHZ.out, below_pf HZ.out hl2 _⟩
set_option maxRecDepth 100000 in
set_option maxHeartbeats 4000000 in
theorem estep_6 (W D J S : Int) (A : Option Addr) (n c : Nat) (l : List Int) (f : Fr) (l' : List Int) (f' : Fr) (w : World) (h : Rd w A l) (hn : l.length = n) (hs : n ≤ 500) (hu : UM l) (hf : UF f) (ho : f.op = 6) (e : noteS W D J S l f = (l', f')) :
    Calls Try.prog 27 #[cf W D J S, .slice A n c, fv f] w (RetQ w.heap.size w n l' f') := by
  have H := Lib.hid h; clear h
  have HN := Lib.hid hn; clear hn
  have HS := Lib.hid hs; clear hs
  have HF := Lib.hid hf; clear hf
  have HU := Lib.hid hu; clear hu
  have HE := Lib.hid e; clear e
  obtain ⟨o, p, q, v, x, y, s⟩ := f
  simp only at ho
  subst ho
  obtain ⟨BX, BF, B0, Z, hz⟩ := boxes3 w W D J S ⟨6, p, q, v, x, y, s⟩
  have H := Lib.hid (H.out.below Z)
  go_enter Try.func27, Try.ntmps27
  go_upto_region 1 with fail
  change Code.wp _ _ _ _ (bx3 w W D J S ⟨6, p, q, v, x, y, s⟩)
  generalize bx3 w W D J S ⟨6, p, q, v, x, y, s⟩ = w0 at BX BF B0 Z hz H ⊢
  obtain ⟨_, b0, b1, b2, b3⟩ := BX
  obtain ⟨a0, a1, a2, a3, a4, a5, a6⟩ := BF.cells
  have la := BF.lt
  go_wp2_with fail
  refine (note_n (c := c) H.out HN.out HS.out HF.out HE.out).mono ?_
  rintro _ w1 ⟨A1, c1, rfl, hr1, z1⟩
  have HR1 := Lib.hid hr1
  have HZ1 := Lib.hid z1
  have B1 := B0.after z1
  obtain ⟨d0, d1, d2, d3, d4, d5, d6⟩ := B1.cells
  have lb := B1.lt
  have fz := B1.free
  have HZ := Lib.hid (Z.trans (z1.mono (by omega)))
  have hl2 : w.heap.size ≤ w.heap.size + 1 + 1 := by omega
  have HH2 := Lib.hid (show w.heap.size + 1 + 1 < w0.heap.size by omega)
  have HHZ := Lib.hid (show w.heap.size ≤ w0.heap.size by omega)
  clear hr1 z1 a0 a1 a2 a3 a4 a5 a6 la b0 b1 b2 b3 hz
  go_wp2
  change bodyPost _ _ _ _ _ (pf w1 (w.heap.size + 1 + 1) f')
  refine bodyPost_ret (results_fr Try.results27 _ rfl (B1.pf _)) rfl ?_
  exact ⟨A1, c1, rfl, (HR1.out.pf HH2.out _).mono HHZ.out, below_pf HZ.out hl2 _⟩
set_option maxRecDepth 100000 in
set_option maxHeartbeats 4000000 in
theorem estep_7 (W D J S : Int) (A : Option Addr) (n c : Nat) (l : List Int) (f : Fr) (l' : List Int) (f' : Fr) (w : World) (h : Rd w A l) (hn : l.length = n) (hs : n ≤ 500) (hu : UM l) (hf : UF f) (ho : f.op = 7) (e : noteS W D J S l f = (l', f')) :
    Calls Try.prog 27 #[cf W D J S, .slice A n c, fv f] w (RetQ w.heap.size w n l' f') := by
  have H := Lib.hid h; clear h
  have HN := Lib.hid hn; clear hn
  have HS := Lib.hid hs; clear hs
  have HF := Lib.hid hf; clear hf
  have HU := Lib.hid hu; clear hu
  have HE := Lib.hid e; clear e
  obtain ⟨o, p, q, v, x, y, s⟩ := f
  simp only at ho
  subst ho
  obtain ⟨BX, BF, B0, Z, hz⟩ := boxes3 w W D J S ⟨7, p, q, v, x, y, s⟩
  have H := Lib.hid (H.out.below Z)
  go_enter Try.func27, Try.ntmps27
  go_upto_region 1 with fail
  change Code.wp _ _ _ _ (bx3 w W D J S ⟨7, p, q, v, x, y, s⟩)
  generalize bx3 w W D J S ⟨7, p, q, v, x, y, s⟩ = w0 at BX BF B0 Z hz H ⊢
  obtain ⟨_, b0, b1, b2, b3⟩ := BX
  obtain ⟨a0, a1, a2, a3, a4, a5, a6⟩ := BF.cells
  have la := BF.lt
  go_wp2_with fail
  refine (note_n (c := c) H.out HN.out HS.out HF.out HE.out).mono ?_
  rintro _ w1 ⟨A1, c1, rfl, hr1, z1⟩
  have HR1 := Lib.hid hr1
  have HZ1 := Lib.hid z1
  have B1 := B0.after z1
  obtain ⟨d0, d1, d2, d3, d4, d5, d6⟩ := B1.cells
  have lb := B1.lt
  have fz := B1.free
  have HZ := Lib.hid (Z.trans (z1.mono (by omega)))
  have hl2 : w.heap.size ≤ w.heap.size + 1 + 1 := by omega
  have HH2 := Lib.hid (show w.heap.size + 1 + 1 < w0.heap.size by omega)
  have HHZ := Lib.hid (show w.heap.size ≤ w0.heap.size by omega)
  clear hr1 z1 a0 a1 a2 a3 a4 a5 a6 la b0 b1 b2 b3 hz
  go_wp2
  change bodyPost _ _ _ _ _ (pf w1 (w.heap.size + 1 + 1) f')
  refine bodyPost_ret (results_fr Try.results27 _ rfl (B1.pf _)) rfl ?_
  exact ⟨A1, c1, rfl, (HR1.out.pf HH2.out _).mono HHZ.out, below_pf HZ.out hl2 _⟩
set_option maxRecDepth 100000 in
set_option maxHeartbeats 4000000 in
theorem estep_0 (W D J S : Int) (A : Option Addr) (n c : Nat) (l : List Int) (f : Fr) (l' : List Int) (f' : Fr) (w : World) (h : Rd w A l) (hn : l.length = n) (hs : n ≤ 500) (hu : UM l) (hf : UF f) (ho : ¬ f.op = 5 ∧ ¬ f.op = 6 ∧ ¬ f.op = 7) (e : (l, f) = (l', f')) :
    Calls Try.prog 27 #[cf W D J S, .slice A n c, fv f] w (RetQ w.heap.size w n l' f') := by
  have H := Lib.hid h; clear h
  have HN := Lib.hid hn; clear hn
  have HS := Lib.hid hs; clear hs
  have HF := Lib.hid hf; clear hf
  have HU := Lib.hid hu; clear hu
  have HE := Lib.hid e; clear e
  obtain ⟨o, p, q, v, x, y, s⟩ := f
  simp only at ho
  have g0 : (o == 5) = false := by simpa using ho.1
  have g1 : (o == 6) = false := by simpa using ho.2.1
  have g2 : (o == 7) = false := by simpa using ho.2.2
  clear ho
  obtain ⟨BX, BF, B0, Z, hz⟩ := boxes3 w W D J S ⟨o, p, q, v, x, y, s⟩
  have H := Lib.hid (H.out.below Z)
  go_enter Try.func27, Try.ntmps27
  go_upto_region 1 with fail
  change Code.wp _ _ _ _ (bx3 w W D J S ⟨o, p, q, v, x, y, s⟩)
  generalize bx3 w W D J S ⟨o, p, q, v, x, y, s⟩ = w0 at BX BF B0 Z hz H ⊢
  obtain ⟨_, b0, b1, b2, b3⟩ := BX
  obtain ⟨a0, a1, a2, a3, a4, a5, a6⟩ := BF.cells
  have la := BF.lt
  obtain ⟨e1, e2⟩ := Prod.mk.inj HE.out
  subst e1 e2
  obtain ⟨d0, d1, d2, d3, d4, d5, d6⟩ := B0.cells
  have lb := B0.lt
  have fz := B0.free
  have H1 : Rd w0.drew A l := H.out
  have hl2 : w.heap.size ≤ w.heap.size + 1 + 1 := by omega
  have HH2 := Lib.hid (show w.heap.size + 1 + 1 < w0.heap.size by omega)
  have HHZ := Lib.hid (show w.heap.size ≤ w0.heap.size by omega)
  have HLT := Lib.hid (show w.heap.size + 1 < w0.heap.size by omega)
  clear hz
  go_wp2
  go_region_with (go_at_call 34; (refine (clone_any A n c l _ H1 HN.out HS.out).mono ?_); rintro _ w1 ⟨A1, c1, rfl, hr1, z1⟩; have HR1 := Lib.hid hr1; have HZ1 := Lib.hid z1; have B1 := B0.drew.after z1; obtain ⟨d0, d1, d2, d3, d4, d5, d6⟩ := B1.cells; have lb := B1.lt; have fz := B1.free; obtain ⟨a0, a1, a2, a3, a4, a5, a6⟩ := (BF.drew.after z1).cells; have la := (BF.drew.after z1).lt; have HZ := Lib.hid (Z.drew.trans (z1.mono HHZ.out)); clear hr1 z1)
  all_goals
    go_wp2
    change bodyPost _ _ _ _ _ (pf w1 (w.heap.size + 1 + 1) ⟨o, p, q, v, x, y, s⟩)
    refine bodyPost_ret (results_fr Try.results27 _ rfl (B1.pf _)) rfl ?_
    exact ⟨A1, c1, rfl, (HR1.out.pf HH2.out _).mono HHZ.out, below_pf HZ.out hl2 _⟩
set_option maxRecDepth 100000 in
theorem noteS_other {W D J S : Int} {m : List Int} {f : Fr} (h : ¬ f.op = 6 ∧ ¬ f.op = 7) : noteS W D J S m f = (m, f) := by
  have hg : goesN W D J S m f = false := by
    unfold goesN
    simp [h.1, h.2]
  unfold noteS
  rw [if_neg (by rw [hg]; simp)]
set_option maxRecDepth 100000 in
/-- A step, where the outcome is known. -/
theorem estep_n {W D J S : Int} {A : Option Addr} {n c : Nat} {l : List Int} {f : Fr} {w : World} (h : Rd w A l) (hn : l.length = n) (hs : n ≤ 500) (hu : UM l) (hf : UF f) {l' : List Int} {f' : Fr} (e : evS W D J S l f = (l', f')) :
    Calls Try.prog 27 #[cf W D J S, .slice A n c, fv f] w (RetQ w.heap.size w n l' f') := by
  unfold evS at e
  by_cases h0 : f.op = 5
  · rw [if_pos h0] at e; exact estep_5 W D J S A n c l f l' f' w h hn hs hu hf h0 e
  rw [if_neg h0] at e
  by_cases h1 : f.op = 6
  · exact estep_6 W D J S A n c l f l' f' w h hn hs hu hf h1 e
  by_cases h2 : f.op = 7
  · exact estep_7 W D J S A n c l f l' f' w h hn hs hu hf h2 e
  rw [noteS_other ⟨h1, h2⟩] at e
  exact estep_0 W D J S A n c l f l' f' w h hn hs hu hf ⟨h0, h1, h2⟩ e
set_option maxRecDepth 100000 in
theorem isEv_cases (o : Int) : isEv o = decide (o = 5 ∨ o = 6 ∨ o = 7) := by
  unfold isEv
  rw [Bool.eq_iff_iff]; simp; omega
set_option maxRecDepth 100000 in
theorem at_any (o : Int) (w : World) : Tells 45 #[.int .i64 o] w (.bool (isEv o)) := by
  rw [isEv_cases]
  by_cases h5 : o = 5
  · subst h5
    go_enter Try.func45, Try.ntmps45
    go_wp2
    go_ret
    exact ⟨rfl, Below.refl _ _⟩
  by_cases h6 : o = 6
  · subst h6
    go_enter Try.func45, Try.ntmps45
    go_wp2
    go_ret
    exact ⟨rfl, Below.refl _ _⟩
  by_cases h7 : o = 7
  · subst h7
    go_enter Try.func45, Try.ntmps45
    go_wp2
    go_ret
    exact ⟨rfl, Below.refl _ _⟩
  have e5 : (o == 5) = false := by simpa using h5
  have e6 : (o == 6) = false := by simpa using h6
  have e7 : (o == 7) = false := by simpa using h7
  have E : decide (o = 5 ∨ o = 6 ∨ o = 7) = false := by simp; omega
  rw [E]
  clear h5 h6 h7 E
  go_enter Try.func45, Try.ntmps45
  go_wp2
  go_ret
  exact ⟨rfl, Below.refl _ _⟩
set_option maxRecDepth 100000 in
/-- What finds a list's next call: a closure over a box of the lists' clone. -/
theorem next_any (A : Option Addr) (n c : Nat) (vs : List Value) (w : World) (h : Rv w A vs) (h1 : Sli vs) (hn : vs.length = n) (hs : n ≤ 500) :
    Calls Try.prog 25 #[.slice A n c] w fun e w' => ∃ g A' c', e = .returned (.func (.func 44) #[] #[.pointer (some ⟨g, 0, none⟩)]) ∧ Os w' w.heap.size A' n c' vs ∧ (∀ k, (Value.slice A' n c').ownBlock = some k → k < g) ∧ Boxed w' g 22 (.slice A' n c') ∧ w.heap.size ≤ g ∧ Below w.heap.size w w' := by
  have H := Lib.hid h
  have H1 := Lib.hid h1
  have HN := Lib.hid hn
  clear h h1 hn
  go_enter Try.func25, Try.ntmps25
  go_wp2_with fail
  refine (clones_any A n c vs _ H.out H1.out HN.out hs).mono ?_
  rintro _ w1 ⟨A1, c1, rfl, ho, z1⟩
  have HO := Lib.hid ho
  have Z := Lib.hid z1
  clear ho z1
  go_wp2
  go_ret
  refine ⟨w1.heap.size, A1, c1, rfl, HO.out.below (bel_alloc _ _), fun k hk => (World.ownsRow.lt HO.out k hk).2, Boxed.new _ _ _, Z.out.size, Z.out.trans ((bel_alloc _ _).mono Z.out.size)⟩
end Go.Proofs.Ytgemaeibmgkneaa
