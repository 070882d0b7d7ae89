/- Contract of Step: where a call does not go on, and where it does. -/
import Derived.Test.YtpeaahihjeplmaaPuEF
import Derived.Test.YtpeaahihjeplmaaPuA2
import Derived.Test.YtpeaahihjeplmaaPuD
import Derived.Deep.CutRange
import Derived.Deep.DeepCutAuto
namespace Go.Proofs.Ytpeaahihjeplmaa
open Go.RowKit Go.Deep
/-- A box for the layout, one for the call that came in, and one for the call that goes out. -/
def bx3 (w : World) (W D J S : Int) (f : Fr) : World := (bxc w W D J S f).alloc (.cells #[.int .i64 0, .int .i64 0, .int .i64 0, .int .u64 0, .int .u64 0, .int .u64 0, .int .i64 0] 28)
set_option maxRecDepth 100000 in
theorem boxes3 (w : World) (W D J S : Int) (f : Fr) : Bx (bx3 w W D J S f) w.heap.size W D J S ∧ Bf (bx3 w W D J S f) (w.heap.size + 1) f ∧ Bf (bx3 w W D J S f) (w.heap.size + 1 + 1) f0 ∧ Below w.heap.size w (bx3 w W D J S f) ∧ (bx3 w W D J S f).heap.size = w.heap.size + 3 := by
  obtain ⟨b1, b2, b3, b4⟩ := boxes2 w W D J S f
  have hb := box_below (bxc w W D J S f) (.cells #[.int .i64 0, .int .i64 0, .int .i64 0, .int .u64 0, .int .u64 0, .int .u64 0, .int .i64 0] 28)
  refine ⟨b1.below hb, b2.after hb, ?_, b3.trans (hb.mono (by omega)), by unfold bx3; simp [b4]⟩
  have := heap_alloc_new (bxc w W D J S f) (.cells #[.int .i64 0, .int .i64 0, .int .i64 0, .int .u64 0, .int .u64 0, .int .u64 0, .int .i64 0] 28)
  rw [b4] at this
  exact this
/-- The cells of a push, laid into block g. -/
def pp (w : World) (g : Nat) (f : Fr) (W D J S : Int) (v : Value) : World := (((((pf w g f).setCell ⟨g, 7, none⟩ (.int .i64 W)).setCell ⟨g, 8, none⟩ (.int .i64 D)).setCell ⟨g, 9, none⟩ (.int .i64 J)).setCell ⟨g, 10, none⟩ (.int .i64 S)).setCell ⟨g, 11, none⟩ v
set_option maxRecDepth 100000 in
theorem below_pp {n : Nat} {w w' : World} (h : Below n w w') {g : Nat} (k : n ≤ g) (f : Fr) (W D J S : Int) (v : Value) : Below n w (pp w' g f W D J S v) :=
  (((((below_pf h k f).setCell k _).setCell k _).setCell k _).setCell k _).setCell k _
set_option maxRecDepth 100000 in
theorem Rx.pp {lo g : Nat} {w : World} {A : Option Addr} {l : List Int} (h : Rx lo g w A l) (f : Fr) (W D J S : Int) (v : Value) : Rx lo g (pp w g f W D J S v) A l :=
  (((((h.pf f).set rfl _).set rfl _).set rfl _).set rfl _).set rfl _
set_option maxRecDepth 100000 in
theorem Bp.pp {w : World} {g : Nat} {f : Fr} {W D J S : Int} {v : Value} (h : Bp w g f W D J S v) (f' : Fr) (W' D' J' S' : Int) (v' : Value) : Bp (pp w g f' W' D' J' S' v') g f' W' D' J' S' v' := by
  have h2 := h.pf f'
  unfold Ytpeaahihjeplmaa.pp
  generalize Ytpeaahihjeplmaa.pf w g f' = w1 at h2
  unfold Bp at h2 ⊢
  simp [World.setCell, Array.getElem?_modify, h2]
set_option maxRecDepth 100000 in
theorem Bp.new (w : World) : Bp (w.alloc (.cells #[.int .i64 0, .int .i64 0, .int .i64 0, .int .u64 0, .int .u64 0, .int .u64 0, .int .i64 0, .int .i64 0, .int .i64 0, .int .i64 0, .int .i64 0, .slice none 0 0] 77)) w.heap.size f0 0 0 0 0 (.slice none 0 0) := heap_alloc_new _ _
set_option maxRecDepth 100000 in
theorem hd_set12 {S : World → Prop} {n : Nat} {w0 w : World} (K : ∀ x, Below n w0 x → S x) {g : Nat} (hg : n ≤ g) (v0 v1 v2 v3 v4 v5 v6 v7 v8 v9 v10 v11 : Value) (h : Below n w0 w) : S ((((((((((((w.setCell ⟨g, 0, none⟩ v0).setCell ⟨g, 1, none⟩ v1).setCell ⟨g, 2, none⟩ v2).setCell ⟨g, 3, none⟩ v3).setCell ⟨g, 4, none⟩ v4).setCell ⟨g, 5, none⟩ v5).setCell ⟨g, 6, none⟩ v6).setCell ⟨g, 7, none⟩ v7).setCell ⟨g, 8, none⟩ v8).setCell ⟨g, 9, none⟩ v9).setCell ⟨g, 10, none⟩ v10).setCell ⟨g, 11, none⟩ v11) := K _ (((((((((((((h).setCell (p := ⟨g, 0, none⟩) hg _).setCell (p := ⟨g, 1, none⟩) hg _).setCell (p := ⟨g, 2, none⟩) hg _).setCell (p := ⟨g, 3, none⟩) hg _).setCell (p := ⟨g, 4, none⟩) hg _).setCell (p := ⟨g, 5, none⟩) hg _).setCell (p := ⟨g, 6, none⟩) hg _).setCell (p := ⟨g, 7, none⟩) hg _).setCell (p := ⟨g, 8, none⟩) hg _).setCell (p := ⟨g, 9, none⟩) hg _).setCell (p := ⟨g, 10, none⟩) hg _).setCell (p := ⟨g, 11, none⟩) hg _)
set_option maxRecDepth 100000 in
theorem hd_drew {S : World → Prop} {n : Nat} {w0 w : World} (K : ∀ x, Below n w0 x → S x) (G : ∀ x, S x → Below n w0 x) (h : S w) : S w.drew := K _ (G _ h).drew
set_option maxRecDepth 100000 in
theorem hd_alloc {S : World → Prop} {n : Nat} {w0 w : World} (K : ∀ x, Below n w0 x → S x) (G : ∀ x, S x → Below n w0 x) (hn : n ≤ w0.heap.size) (o : Obj) (h : S w) : S (w.alloc o) := K _ ((G _ h).alloc (Nat.le_trans hn (G _ h).size) o)
set_option maxRecDepth 100000 in
theorem hd_alloc_drew {S : World → Prop} {n : Nat} {w0 w : World} (K : ∀ x, Below n w0 x → S x) (G : ∀ x, S x → Below n w0 x) (hn : n ≤ w0.heap.size) (o : Obj) (h : S w.drew) : S (w.alloc o).drew := K _ (show Below n w0 (w.drew.alloc o) from (G _ h).alloc (Nat.le_trans hn (G _ h).size) o)
set_option maxRecDepth 100000 in
theorem hd_call {S : World → Prop} {n : Nat} {w0 w w' : World} (K : ∀ x, Below n w0 x → S x) (G : ∀ x, S x → Below n w0 x) (hc : Below w.heap.size w w') (h : S w) (hn : n ≤ w0.heap.size) : S w' := K _ ((G _ h).trans (hc.mono (Nat.le_trans hn (G _ h).size)))
/-- What a step leaves: cells, and a call. -/
def RetS (w : World) (l : List Int) (f : Fr) (e : Ending) (w' : World) : Prop :=
  ∃ A c, e = .returned (.tuple #[.slice A l.length c, fv f]) ∧ Rn w.heap.size w' A l ∧ Below w.heap.size w w'
set_option maxRecDepth 100000 in
set_option maxHeartbeats 4000000 in
theorem step_leave (W D J S : Int) (A : Option Addr) (c : Nat) (l : List Int) (f : Fr) (w : World) (h : Rd w A l) (hs : l.length ≤ 500) (hg : goes W D J S l f 0 4 = false) :
    Calls Try.prog 25 #[cf W D J S, .slice A l.length c, fv f] w (RetS w l f) := by
  obtain ⟨BX, BF, B0, Z, hz⟩ := boxes3 w W D J S f
  have H := Lib.hid (h.below Z); clear h
  have HS := Lib.hid hs; clear hs
  have HG := Lib.hid hg; clear hg
  obtain ⟨o, p, q, v, x, y, s⟩ := f
  go_enter Try.func25, Try.ntmps25
  go_upto_region 1 with fail
  change Code.wp _ _ _ _ (bx3 w W D J S ⟨o, p, q, v, x, y, s⟩)
  generalize bx3 w W D J S ⟨o, p, q, v, x, y, s⟩ = w0 at BX BF B0 Z hz H ⊢
  go_cut [8] from 8 to 13 (fun t wr => ∃ (g : Nat) (A' : Option Addr) (c' : Nat), t = .pointer (some ⟨g, 0, none⟩) ∧ Hid (Bp wr g ⟨o, p, q, v, x, y, s⟩ W D J S (.slice A' l.length c')) ∧ Hid (Rx w0.heap.size g wr A' l) ∧ Hid (Below w0.heap.size w0 wr) ∧ Hid (w0.heap.size ≤ g))
  case first =>
    have HZ := Lib.hid hz
    clear hz
    have HK := Lib.hid (show ∀ x', Below w0.heap.size w0 x' → (fun w' => w'.cell? ⟨w.heap.size, 0, none⟩ = some (.int .i64 W) ∧ w'.cell? ⟨w.heap.size, 1, none⟩ = some (.int .i64 D) ∧ w'.cell? ⟨w.heap.size, 2, none⟩ = some (.int .i64 J) ∧ w'.cell? ⟨w.heap.size, 3, none⟩ = some (.int .i64 S) ∧ w'.cell? ⟨w.heap.size + 1, 0, none⟩ = some (.int .i64 o) ∧ w'.cell? ⟨w.heap.size + 1, 1, none⟩ = some (.int .i64 p) ∧ w'.cell? ⟨w.heap.size + 1, 2, none⟩ = some (.int .i64 q) ∧ w'.cell? ⟨w.heap.size + 1, 3, none⟩ = some (.int .u64 v) ∧ w'.cell? ⟨w.heap.size + 1, 4, none⟩ = some (.int .u64 x) ∧ w'.cell? ⟨w.heap.size + 1, 5, none⟩ = some (.int .u64 y) ∧ w'.cell? ⟨w.heap.size + 1, 6, none⟩ = some (.int .i64 s) ∧ Below w0.heap.size w0 w') x' from fun x' hx => by
      obtain ⟨_, e0, e1, e2, e3⟩ := BX.below hx
      obtain ⟨f0, f1, f2, f3, f4, f5, f6⟩ := (BF.after hx).cells
      exact ⟨e0, e1, e2, e3, f0, f1, f2, f3, f4, f5, f6, hx⟩)
    have hHeld0 := HK.out _ (Below.refl _ _)
    have hn0 : w0.heap.size ≤ w0.heap.size := Nat.le_refl _
    have zr := (Below.refl w0.heap.size w0).drew
    go_region_held3 (fun w' => w'.cell? ⟨w.heap.size, 0, none⟩ = some (.int .i64 W) ∧ w'.cell? ⟨w.heap.size, 1, none⟩ = some (.int .i64 D) ∧ w'.cell? ⟨w.heap.size, 2, none⟩ = some (.int .i64 J) ∧ w'.cell? ⟨w.heap.size, 3, none⟩ = some (.int .i64 S) ∧ w'.cell? ⟨w.heap.size + 1, 0, none⟩ = some (.int .i64 o) ∧ w'.cell? ⟨w.heap.size + 1, 1, none⟩ = some (.int .i64 p) ∧ w'.cell? ⟨w.heap.size + 1, 2, none⟩ = some (.int .i64 q) ∧ w'.cell? ⟨w.heap.size + 1, 3, none⟩ = some (.int .u64 v) ∧ w'.cell? ⟨w.heap.size + 1, 4, none⟩ = some (.int .u64 x) ∧ w'.cell? ⟨w.heap.size + 1, 5, none⟩ = some (.int .u64 y) ∧ w'.cell? ⟨w.heap.size + 1, 6, none⟩ = some (.int .i64 s) ∧ Below w0.heap.size w0 w')
      (first | with_reducible exact hd_drew HK.out (fun _ h => h.2.2.2.2.2.2.2.2.2.2.2) (by assumption) | with_reducible exact hd_alloc HK.out (fun _ h => h.2.2.2.2.2.2.2.2.2.2.2) hn0 _ (by assumption) | with_reducible exact hd_alloc_drew HK.out (fun _ h => h.2.2.2.2.2.2.2.2.2.2.2) hn0 _ (by assumption) | with_reducible exact hd_call HK.out (fun _ h => h.2.2.2.2.2.2.2.2.2.2.2) (by assumption) (by assumption) hn0 | with_reducible exact HK.out _ (z1.alloc z1.size _) | with_reducible exact hd_set12 HK.out (Nat.le_refl _) _ _ _ _ _ _ _ _ _ _ _ _ z1)
      (first
      | (go_at_call 28; (refine (clone_any A l.length c l w0.drew (H.out.below zr) rfl HS.out).mono ?_); rintro _ w1 ⟨A1, c1, rfl, hr1, hb1⟩; have HR1 := Lib.hid hr1; have z1 : Below w0.heap.size w0 w1 := keep_call hb1 zr; clear hr1)
      | (go_at_call 28; (refine (clone_any A l.length c l _ (H.out.below (zr.alloc (Nat.le_refl _) _)) rfl HS.out).mono ?_); rintro _ w1 ⟨A1, c1, rfl, hr1, hb1⟩; have HR1 := Lib.hid hr1; have z1 : Below w0.heap.size w0 w1 := (zr.alloc (Nat.le_refl _) _).trans (hb1.mono (by simp)); have e1 := (Bp.new w0).drew.after hb1; have E1 := Lib.hid e1; obtain ⟨d0, d1, d2, d3, d4, d5, d6, d7, d8, d9, d10, d11⟩ := e1.cells; have fz := e1.free; clear hr1 e1))
    · go_wp2_with fail
      go_meet
      exact ⟨w1.heap.size, A1, c1, rfl, Lib.hid (heap_alloc_new _ _), Lib.hid ((HR1.out.rx (Nat.le_refl _) (.inr (Nat.le_refl _))).after (bel_alloc w1 _)), Lib.hid (z1.alloc z1.size _), Lib.hid z1.size⟩
    · go_wp2_with fail
      go_meet
      change ∃ (g : Nat) (A' : Option Addr) (c' : Nat), Value.pointer (some ⟨w0.heap.size, 0, none⟩) = .pointer (some ⟨g, 0, none⟩) ∧ Hid (Bp (pp w1 w0.heap.size ⟨o, p, q, v, x, y, s⟩ W D J S (.slice A1 l.length c1)) g ⟨o, p, q, v, x, y, s⟩ W D J S (.slice A' l.length c')) ∧ Hid (Rx w0.heap.size g (pp w1 w0.heap.size ⟨o, p, q, v, x, y, s⟩ W D J S (.slice A1 l.length c1)) A' l) ∧ Hid (Below w0.heap.size w0 (pp w1 w0.heap.size ⟨o, p, q, v, x, y, s⟩ W D J S (.slice A1 l.length c1))) ∧ Hid (w0.heap.size ≤ g)
      exact ⟨w0.heap.size, A1, c1, rfl, Lib.hid (E1.out.pp _ _ _ _ _ _), Lib.hid ((HR1.out.rx (by simp) (.inl (by simp))).pp _ _ _ _ _ _), Lib.hid (below_pp z1 (Nat.le_refl _) _ _ _ _ _ _), Lib.hid (Nat.le_refl _)⟩
  case rest =>
    obtain ⟨g, A', c', rfl, HB, HR, HZ, HL⟩ := hcut
    obtain ⟨_, b0, b1, b2, b3⟩ := BX.below HZ.out
    obtain ⟨a0, a1, a2, a3, a4, a5, a6⟩ := (BF.after HZ.out).cells
    go_wp2_with fail
    refine (Tells.of (goes_any W D J S 0 4 A l.length c l ⟨o, p, q, v, x, y, s⟩ _ rfl) (v' := .bool false) (by rw [HG.out])).mono ?_
    rintro _ w3 ⟨rfl, z3⟩
    have HB3 := Lib.hid (HB.out.after z3)
    have HR3 := Lib.hid (HR.out.after z3)
    have z30 := keep_call z3 HZ.out
    have B03 := B0.after z30
    obtain ⟨b0, b1, b2, b3, b4, b5, b6, b7, b8, b9, b10, b11⟩ := HB3.out.cells
    obtain ⟨d0, d1, d2, d3, d4, d5, d6⟩ := B03.cells
    have fz := B03.free
    go_wp2_with fail
    have HZ3 := Lib.hid (Z.trans (z30.mono (by omega)))
    have hl2 : w.heap.size ≤ w.heap.size + 1 + 1 := by omega
    have hh2 : w.heap.size + 1 + 1 < w0.heap.size := by omega
    have HG2 := Lib.hid (show w.heap.size + 1 + 1 < g from Nat.lt_of_lt_of_le hh2 HL.out)
    have hz2 : w.heap.size ≤ w0.heap.size := by omega
    clear hz z3 z30 HZ HL
    go_region
    all_goals
      go_wp2
      change bodyPost _ _ _ _ _ (pf w3 (w.heap.size + 1 + 1) ⟨o, p, q, v, x, y, s⟩).drew
      refine bodyPost_ret (results_fr Try.results25 _ rfl ((B03.pf _).drew)) rfl ?_
      exact ⟨A', c', rfl, ((HR3.out.rn.pf hh2 _).drew).mono hz2, (below_pf HZ3.out hl2 _).drew⟩
end Go.Proofs.Ytpeaahihjeplmaa
