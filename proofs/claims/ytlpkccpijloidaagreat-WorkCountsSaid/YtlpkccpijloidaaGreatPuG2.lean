/- Merged: PuG, PuH2. -/
import Derived.Test.YtlpkccpijloidaaGreatPu0
import Derived.Test.YtlpkccpijloidaaGreatPuA2
import Derived.Test.YtlpkccpijloidaaGreatPuD
import Derived.Deep.CutRange
import Derived.Deep.DeepCutAuto
import Derived.IntWalk
import Derived.Test.YtlpkccpijloidaaGreatLaC
import Derived.Lib.SmallJoins
namespace Go.Proofs.YtlpkccpijloidaaGreat
set_option maxRecDepth 100000
open Go.RowKit Go.Deep
/-- A box for the layout, one for the call that came in, and one for the call that goes out. -/
def bx3 (w : World) (W D J S : Int) (f : Fr) : World := (bxc w W D J S f).alloc (.cells #[.int .i64 0, .int .i64 0, .int .i64 0, .int .u64 0, .int .u64 0, .int .u64 0, .int .i64 0] 30)
theorem boxes3 (w : World) (W D J S : Int) (f : Fr) : Bx (bx3 w W D J S f) w.heap.size W D J S ∧ Bf (bx3 w W D J S f) (w.heap.size + 1) f ∧ Bf (bx3 w W D J S f) (w.heap.size + 1 + 1) f0 ∧ Below w.heap.size w (bx3 w W D J S f) ∧ (bx3 w W D J S f).heap.size = w.heap.size + 3 := by
  obtain ⟨b1, b2, b3, b4⟩ := boxes2 w W D J S f
  have hb := box_below (bxc w W D J S f) (.cells #[.int .i64 0, .int .i64 0, .int .i64 0, .int .u64 0, .int .u64 0, .int .u64 0, .int .i64 0] 30)
  refine ⟨b1.below hb, b2.after hb, ?_, b3.trans (hb.mono (by omega)), by unfold bx3; simp [b4]⟩
  have := heap_alloc_new (bxc w W D J S f) (.cells #[.int .i64 0, .int .i64 0, .int .i64 0, .int .u64 0, .int .u64 0, .int .u64 0, .int .i64 0] 30)
  rw [b4] at this
  exact this
/-- The cells of a push, laid into block g. -/
def pp (w : World) (g : Nat) (f : Fr) (W D J S : Int) (v : Value) : World := (((((pf w g f).setCell ⟨g, 7, none⟩ (.int .i64 W)).setCell ⟨g, 8, none⟩ (.int .i64 D)).setCell ⟨g, 9, none⟩ (.int .i64 J)).setCell ⟨g, 10, none⟩ (.int .i64 S)).setCell ⟨g, 11, none⟩ v
theorem below_pp {n : Nat} {w w' : World} (h : Below n w w') {g : Nat} (k : n ≤ g) (f : Fr) (W D J S : Int) (v : Value) : Below n w (pp w' g f W D J S v) :=
  (((((below_pf h k f).setCell k _).setCell k _).setCell k _).setCell k _).setCell k _
theorem Rx.pp {lo g : Nat} {w : World} {A : Option Addr} {l : List Int} (h : Rx lo g w A l) (f : Fr) (W D J S : Int) (v : Value) : Rx lo g (pp w g f W D J S v) A l :=
  (((((h.pf f).set rfl _).set rfl _).set rfl _).set rfl _).set rfl _
theorem Bp.pp {w : World} {g : Nat} {f : Fr} {W D J S : Int} {v : Value} (h : Bp w g f W D J S v) (f' : Fr) (W' D' J' S' : Int) (v' : Value) : Bp (pp w g f' W' D' J' S' v') g f' W' D' J' S' v' := by
  have h2 := h.pf f'
  unfold YtlpkccpijloidaaGreat.pp
  generalize YtlpkccpijloidaaGreat.pf w g f' = w1 at h2
  unfold Bp at h2 ⊢
  simp [World.setCell, Array.getElem?_modify, h2]
theorem Bp.new (w : World) : Bp (w.alloc (.cells #[.int .i64 0, .int .i64 0, .int .i64 0, .int .u64 0, .int .u64 0, .int .u64 0, .int .i64 0, .int .i64 0, .int .i64 0, .int .i64 0, .int .i64 0, .slice none 0 0] 120)) w.heap.size f0 0 0 0 0 (.slice none 0 0) := heap_alloc_new _ _
theorem hd_set12 {S : World → Prop} {n : Nat} {w0 w : World} (K : ∀ x, Below n w0 x → S x) {g : Nat} (hg : n ≤ g) (v0 v1 v2 v3 v4 v5 v6 v7 v8 v9 v10 v11 : Value) (h : Below n w0 w) : S ((((((((((((w.setCell ⟨g, 0, none⟩ v0).setCell ⟨g, 1, none⟩ v1).setCell ⟨g, 2, none⟩ v2).setCell ⟨g, 3, none⟩ v3).setCell ⟨g, 4, none⟩ v4).setCell ⟨g, 5, none⟩ v5).setCell ⟨g, 6, none⟩ v6).setCell ⟨g, 7, none⟩ v7).setCell ⟨g, 8, none⟩ v8).setCell ⟨g, 9, none⟩ v9).setCell ⟨g, 10, none⟩ v10).setCell ⟨g, 11, none⟩ v11) := K _ (((((((((((((h).setCell (p := ⟨g, 0, none⟩) hg _).setCell (p := ⟨g, 1, none⟩) hg _).setCell (p := ⟨g, 2, none⟩) hg _).setCell (p := ⟨g, 3, none⟩) hg _).setCell (p := ⟨g, 4, none⟩) hg _).setCell (p := ⟨g, 5, none⟩) hg _).setCell (p := ⟨g, 6, none⟩) hg _).setCell (p := ⟨g, 7, none⟩) hg _).setCell (p := ⟨g, 8, none⟩) hg _).setCell (p := ⟨g, 9, none⟩) hg _).setCell (p := ⟨g, 10, none⟩) hg _).setCell (p := ⟨g, 11, none⟩) hg _)
theorem hd_drew {S : World → Prop} {n : Nat} {w0 w : World} (K : ∀ x, Below n w0 x → S x) (G : ∀ x, S x → Below n w0 x) (h : S w) : S w.drew := K _ (G _ h).drew
theorem hd_alloc {S : World → Prop} {n : Nat} {w0 w : World} (K : ∀ x, Below n w0 x → S x) (G : ∀ x, S x → Below n w0 x) (hn : n ≤ w0.heap.size) (o : Obj) (h : S w) : S (w.alloc o) := K _ ((G _ h).alloc (Nat.le_trans hn (G _ h).size) o)
theorem hd_alloc_drew {S : World → Prop} {n : Nat} {w0 w : World} (K : ∀ x, Below n w0 x → S x) (G : ∀ x, S x → Below n w0 x) (hn : n ≤ w0.heap.size) (o : Obj) (h : S w.drew) : S (w.alloc o).drew := K _ (show Below n w0 (w.drew.alloc o) from (G _ h).alloc (Nat.le_trans hn (G _ h).size) o)
theorem hd_call {S : World → Prop} {n : Nat} {w0 w w' : World} (K : ∀ x, Below n w0 x → S x) (G : ∀ x, S x → Below n w0 x) (hc : Below w.heap.size w w') (h : S w) (hn : n ≤ w0.heap.size) : S w' := K _ ((G _ h).trans (hc.mono (Nat.le_trans hn (G _ h).size)))
/-- What a step leaves: cells, and a call. -/
def RetS (w : World) (l : List Int) (f : Fr) (e : Ending) (w' : World) : Prop :=
  ∃ A c, e = .returned (.tuple #[.slice A l.length c, fv f]) ∧ Rn w.heap.size w' A l ∧ Below w.heap.size w w'
set_option maxHeartbeats 4000000 in
theorem step_leave (W D J S : Int) (A : Option Addr) (c : Nat) (l : List Int) (f : Fr) (w : World) (h : Rd w A l) (hs : l.length ≤ 500) (hg : goes W D J S l f 0 4 = false) :
    Calls Tryz.prog 89 #[cf W D J S, .slice A l.length c, fv f] w (RetS w l f) := by
  obtain ⟨BX, BF, B0, Z, hz⟩ := boxes3 w W D J S f
  have H := Lib.hid (h.below Z); clear h
  have HS := Lib.hid hs; clear hs
  have HG := Lib.hid hg; clear hg
  obtain ⟨o, p, q, v, x, y, s⟩ := f
  go_enter Tryz.func89, Tryz.ntmps89
  go_upto_region 1 with fail
  change Code.wp _ _ _ _ (bx3 w W D J S ⟨o, p, q, v, x, y, s⟩)
  generalize bx3 w W D J S ⟨o, p, q, v, x, y, s⟩ = w0 at BX BF B0 Z hz H ⊢
  go_cut [8] from 8 to 13 (fun t wr => ∃ (g : Nat) (A' : Option Addr) (c' : Nat), t = .pointer (some ⟨g, 0, none⟩) ∧ Hid (Bp wr g ⟨o, p, q, v, x, y, s⟩ W D J S (.slice A' l.length c')) ∧ Hid (Rx w0.heap.size g wr A' l) ∧ Hid (Below w0.heap.size w0 wr) ∧ Hid (w0.heap.size ≤ g))
  case first =>
    have HZ := Lib.hid hz
    clear hz
    have HK := Lib.hid (show ∀ x', Below w0.heap.size w0 x' → (fun w' => w'.cell? ⟨w.heap.size, 0, none⟩ = some (.int .i64 W) ∧ w'.cell? ⟨w.heap.size, 1, none⟩ = some (.int .i64 D) ∧ w'.cell? ⟨w.heap.size, 2, none⟩ = some (.int .i64 J) ∧ w'.cell? ⟨w.heap.size, 3, none⟩ = some (.int .i64 S) ∧ w'.cell? ⟨w.heap.size + 1, 0, none⟩ = some (.int .i64 o) ∧ w'.cell? ⟨w.heap.size + 1, 1, none⟩ = some (.int .i64 p) ∧ w'.cell? ⟨w.heap.size + 1, 2, none⟩ = some (.int .i64 q) ∧ w'.cell? ⟨w.heap.size + 1, 3, none⟩ = some (.int .u64 v) ∧ w'.cell? ⟨w.heap.size + 1, 4, none⟩ = some (.int .u64 x) ∧ w'.cell? ⟨w.heap.size + 1, 5, none⟩ = some (.int .u64 y) ∧ w'.cell? ⟨w.heap.size + 1, 6, none⟩ = some (.int .i64 s) ∧ Below w0.heap.size w0 w') x' from fun x' hx => by
      obtain ⟨_, e0, e1, e2, e3⟩ := BX.below hx
      obtain ⟨f0, f1, f2, f3, f4, f5, f6⟩ := (BF.after hx).cells
      exact ⟨e0, e1, e2, e3, f0, f1, f2, f3, f4, f5, f6, hx⟩)
    have hHeld0 := HK.out _ (Below.refl _ _)
    have hn0 : w0.heap.size ≤ w0.heap.size := Nat.le_refl _
    have zr := (Below.refl w0.heap.size w0).drew
    go_region_held3 (fun w' => w'.cell? ⟨w.heap.size, 0, none⟩ = some (.int .i64 W) ∧ w'.cell? ⟨w.heap.size, 1, none⟩ = some (.int .i64 D) ∧ w'.cell? ⟨w.heap.size, 2, none⟩ = some (.int .i64 J) ∧ w'.cell? ⟨w.heap.size, 3, none⟩ = some (.int .i64 S) ∧ w'.cell? ⟨w.heap.size + 1, 0, none⟩ = some (.int .i64 o) ∧ w'.cell? ⟨w.heap.size + 1, 1, none⟩ = some (.int .i64 p) ∧ w'.cell? ⟨w.heap.size + 1, 2, none⟩ = some (.int .i64 q) ∧ w'.cell? ⟨w.heap.size + 1, 3, none⟩ = some (.int .u64 v) ∧ w'.cell? ⟨w.heap.size + 1, 4, none⟩ = some (.int .u64 x) ∧ w'.cell? ⟨w.heap.size + 1, 5, none⟩ = some (.int .u64 y) ∧ w'.cell? ⟨w.heap.size + 1, 6, none⟩ = some (.int .i64 s) ∧ Below w0.heap.size w0 w')
      (first | with_reducible exact hd_drew HK.out (fun _ h => h.2.2.2.2.2.2.2.2.2.2.2) (by assumption) | with_reducible exact hd_alloc HK.out (fun _ h => h.2.2.2.2.2.2.2.2.2.2.2) hn0 _ (by assumption) | with_reducible exact hd_alloc_drew HK.out (fun _ h => h.2.2.2.2.2.2.2.2.2.2.2) hn0 _ (by assumption) | with_reducible exact hd_call HK.out (fun _ h => h.2.2.2.2.2.2.2.2.2.2.2) (by assumption) (by assumption) hn0 | with_reducible exact HK.out _ (z1.alloc z1.size _) | with_reducible exact hd_set12 HK.out (Nat.le_refl _) _ _ _ _ _ _ _ _ _ _ _ _ z1)
      (first
      | (go_at_call 21; (refine (clone_any A l.length c l w0.drew (H.out.below zr) rfl HS.out).mono ?_); rintro _ w1 ⟨A1, c1, rfl, hr1, hb1⟩; have HR1 := Lib.hid hr1; have z1 : Below w0.heap.size w0 w1 := keep_call hb1 zr; clear hr1)
      | (go_at_call 21; (refine (clone_any A l.length c l _ (H.out.below (zr.alloc (Nat.le_refl _) _)) rfl HS.out).mono ?_); rintro _ w1 ⟨A1, c1, rfl, hr1, hb1⟩; have HR1 := Lib.hid hr1; have z1 : Below w0.heap.size w0 w1 := (zr.alloc (Nat.le_refl _) _).trans (hb1.mono (by simp)); have e1 := (Bp.new w0).drew.after hb1; have E1 := Lib.hid e1; obtain ⟨d0, d1, d2, d3, d4, d5, d6, d7, d8, d9, d10, d11⟩ := e1.cells; have fz := e1.free; clear hr1 e1))
    · go_wp2_with fail
      go_meet
      exact ⟨w1.heap.size, A1, c1, rfl, Lib.hid (heap_alloc_new _ _), Lib.hid ((HR1.out.rx (Nat.le_refl _) (.inr (Nat.le_refl _))).after (bel_alloc w1 _)), Lib.hid (z1.alloc z1.size _), Lib.hid z1.size⟩
    · go_wp2_with fail
      go_meet
      change ∃ (g : Nat) (A' : Option Addr) (c' : Nat), Value.pointer (some ⟨w0.heap.size, 0, none⟩) = .pointer (some ⟨g, 0, none⟩) ∧ Hid (Bp (pp w1 w0.heap.size ⟨o, p, q, v, x, y, s⟩ W D J S (.slice A1 l.length c1)) g ⟨o, p, q, v, x, y, s⟩ W D J S (.slice A' l.length c')) ∧ Hid (Rx w0.heap.size g (pp w1 w0.heap.size ⟨o, p, q, v, x, y, s⟩ W D J S (.slice A1 l.length c1)) A' l) ∧ Hid (Below w0.heap.size w0 (pp w1 w0.heap.size ⟨o, p, q, v, x, y, s⟩ W D J S (.slice A1 l.length c1))) ∧ Hid (w0.heap.size ≤ g)
      exact ⟨w0.heap.size, A1, c1, rfl, Lib.hid (E1.out.pp _ _ _ _ _ _), Lib.hid ((HR1.out.rx (by simp) (.inl (by simp))).pp _ _ _ _ _ _), Lib.hid (below_pp z1 (Nat.le_refl _) _ _ _ _ _ _), Lib.hid (Nat.le_refl _)⟩
  case rest =>
    obtain ⟨g, A', c', rfl, HB, HR, HZ, HL⟩ := hcut
    obtain ⟨_, b0, b1, b2, b3⟩ := BX.below HZ.out
    obtain ⟨a0, a1, a2, a3, a4, a5, a6⟩ := (BF.after HZ.out).cells
    go_wp2_with fail
    refine (Tells.of (goes_any W D J S 0 4 A l.length c l ⟨o, p, q, v, x, y, s⟩ _ rfl) (v' := .bool false) (by rw [HG.out])).mono ?_
    rintro _ w3 ⟨rfl, z3⟩
    have HB3 := Lib.hid (HB.out.after z3)
    have HR3 := Lib.hid (HR.out.after z3)
    have z30 := keep_call z3 HZ.out
    have B03 := B0.after z30
    obtain ⟨b0, b1, b2, b3, b4, b5, b6, b7, b8, b9, b10, b11⟩ := HB3.out.cells
    obtain ⟨d0, d1, d2, d3, d4, d5, d6⟩ := B03.cells
    have fz := B03.free
    go_wp2_with fail
    have HZ3 := Lib.hid (Z.trans (z30.mono (by omega)))
    have hl2 : w.heap.size ≤ w.heap.size + 1 + 1 := by omega
    have hh2 : w.heap.size + 1 + 1 < w0.heap.size := by omega
    have HG2 := Lib.hid (show w.heap.size + 1 + 1 < g from Nat.lt_of_lt_of_le hh2 HL.out)
    have hz2 : w.heap.size ≤ w0.heap.size := by omega
    clear hz z3 z30 HZ HL
    go_region
    all_goals
      go_wp2
      change bodyPost _ _ _ _ _ (pf w3 (w.heap.size + 1 + 1) ⟨o, p, q, v, x, y, s⟩).drew
      refine bodyPost_ret (results_fr Tryz.results89 _ rfl ((B03.pf _).drew)) rfl ?_
      exact ⟨A', c', rfl, ((HR3.out.rn.pf hh2 _).drew).mono hz2, (below_pf HZ3.out hl2 _).drew⟩
end Go.Proofs.YtlpkccpijloidaaGreat
namespace Go.Proofs.YtlpkccpijloidaaGreat
set_option maxRecDepth 100000
open Go.RowKit Go.Deep
theorem index_fn0 (a b c d : Value) (w : World) : (Instr.index 121 (.agg #[a, b, c, d]) (.int .i64 0)).run Tryz.prog w = .ok a w := by kernel_rfl
theorem index_fn1 (a b c d : Value) (w : World) : (Instr.index 121 (.agg #[a, b, c, d]) (.int .i64 1)).run Tryz.prog w = .ok b w := by kernel_rfl
theorem index_fn2 (a b c d : Value) (w : World) : (Instr.index 121 (.agg #[a, b, c, d]) (.int .i64 2)).run Tryz.prog w = .ok c w := by kernel_rfl
theorem index_fn3 (a b c d : Value) (w : World) : (Instr.index 121 (.agg #[a, b, c, d]) (.int .i64 3)).run Tryz.prog w = .ok d w := by kernel_rfl
attribute [local go_sem] index_fn0 index_fn1 index_fn2 index_fn3
set_option maxHeartbeats 4000000 in
theorem step_deed (F : FuncId) (W D J S : Int) (A : Option Addr) (c : Nat) (l l' : List Int) (f f' : Fr) (w : World) (h : Rd w A l) (hs : l.length ≤ 500) (hg : goes W D J S l f 0 4 = true)
    (hF : f.pc = 0 ∧ F = 123 ∨ f.pc = 1 ∧ F = 124 ∨ f.pc = 2 ∧ F = 125 ∨ f.pc = 3 ∧ F = 126)
    (C : ∀ (lo g : Nat) (A : Option Addr) (c : Nat) (w : World), Bp w g f W D J S (.slice A l.length c) → Rx lo g w A l → lo ≤ w.heap.size → Calls Tryz.prog F #[.pointer (some ⟨g, 0, none⟩)] w (Lv lo w g f' W D J S l')) :
    Calls Tryz.prog 89 #[cf W D J S, .slice A l.length c, fv f] w (RetS w l' f') := by
  obtain ⟨BX, BF, B0, Z, hz⟩ := boxes3 w W D J S f
  have H := Lib.hid (h.below Z); clear h
  have HS := Lib.hid hs; clear hs
  have HG := Lib.hid hg; clear hg
  have CC := Lib.hid C; clear C
  obtain ⟨o, p, q, v, x, y, s⟩ := f
  have HF := Lib.hid hF; clear hF
  go_enter Tryz.func89, Tryz.ntmps89
  go_upto_region 1 with fail
  change Code.wp _ _ _ _ (bx3 w W D J S ⟨o, p, q, v, x, y, s⟩)
  generalize bx3 w W D J S ⟨o, p, q, v, x, y, s⟩ = w0 at BX BF B0 Z hz H ⊢
  go_cut [8] from 8 to 13 (fun t wr => ∃ (g : Nat) (A' : Option Addr) (c' : Nat), t = .pointer (some ⟨g, 0, none⟩) ∧ Hid (Bp wr g ⟨o, p, q, v, x, y, s⟩ W D J S (.slice A' l.length c')) ∧ Hid (Rx w0.heap.size g wr A' l) ∧ Hid (Below w0.heap.size w0 wr) ∧ Hid (w0.heap.size ≤ g))
  case first =>
    have HZ := Lib.hid hz
    clear hz
    have HK := Lib.hid (show ∀ x', Below w0.heap.size w0 x' → (fun w' => w'.cell? ⟨w.heap.size, 0, none⟩ = some (.int .i64 W) ∧ w'.cell? ⟨w.heap.size, 1, none⟩ = some (.int .i64 D) ∧ w'.cell? ⟨w.heap.size, 2, none⟩ = some (.int .i64 J) ∧ w'.cell? ⟨w.heap.size, 3, none⟩ = some (.int .i64 S) ∧ w'.cell? ⟨w.heap.size + 1, 0, none⟩ = some (.int .i64 o) ∧ w'.cell? ⟨w.heap.size + 1, 1, none⟩ = some (.int .i64 p) ∧ w'.cell? ⟨w.heap.size + 1, 2, none⟩ = some (.int .i64 q) ∧ w'.cell? ⟨w.heap.size + 1, 3, none⟩ = some (.int .u64 v) ∧ w'.cell? ⟨w.heap.size + 1, 4, none⟩ = some (.int .u64 x) ∧ w'.cell? ⟨w.heap.size + 1, 5, none⟩ = some (.int .u64 y) ∧ w'.cell? ⟨w.heap.size + 1, 6, none⟩ = some (.int .i64 s) ∧ Below w0.heap.size w0 w') x' from fun x' hx => by
      obtain ⟨_, e0, e1, e2, e3⟩ := BX.below hx
      obtain ⟨f0, f1, f2, f3, f4, f5, f6⟩ := (BF.after hx).cells
      exact ⟨e0, e1, e2, e3, f0, f1, f2, f3, f4, f5, f6, hx⟩)
    have hHeld0 := HK.out _ (Below.refl _ _)
    have hn0 : w0.heap.size ≤ w0.heap.size := Nat.le_refl _
    have zr := (Below.refl w0.heap.size w0).drew
    go_region_held3 (fun w' => w'.cell? ⟨w.heap.size, 0, none⟩ = some (.int .i64 W) ∧ w'.cell? ⟨w.heap.size, 1, none⟩ = some (.int .i64 D) ∧ w'.cell? ⟨w.heap.size, 2, none⟩ = some (.int .i64 J) ∧ w'.cell? ⟨w.heap.size, 3, none⟩ = some (.int .i64 S) ∧ w'.cell? ⟨w.heap.size + 1, 0, none⟩ = some (.int .i64 o) ∧ w'.cell? ⟨w.heap.size + 1, 1, none⟩ = some (.int .i64 p) ∧ w'.cell? ⟨w.heap.size + 1, 2, none⟩ = some (.int .i64 q) ∧ w'.cell? ⟨w.heap.size + 1, 3, none⟩ = some (.int .u64 v) ∧ w'.cell? ⟨w.heap.size + 1, 4, none⟩ = some (.int .u64 x) ∧ w'.cell? ⟨w.heap.size + 1, 5, none⟩ = some (.int .u64 y) ∧ w'.cell? ⟨w.heap.size + 1, 6, none⟩ = some (.int .i64 s) ∧ Below w0.heap.size w0 w')
      (first | with_reducible exact hd_drew HK.out (fun _ h => h.2.2.2.2.2.2.2.2.2.2.2) (by assumption) | with_reducible exact hd_alloc HK.out (fun _ h => h.2.2.2.2.2.2.2.2.2.2.2) hn0 _ (by assumption) | with_reducible exact hd_alloc_drew HK.out (fun _ h => h.2.2.2.2.2.2.2.2.2.2.2) hn0 _ (by assumption) | with_reducible exact hd_call HK.out (fun _ h => h.2.2.2.2.2.2.2.2.2.2.2) (by assumption) (by assumption) hn0 | with_reducible exact HK.out _ (z1.alloc z1.size _) | with_reducible exact hd_set12 HK.out (Nat.le_refl _) _ _ _ _ _ _ _ _ _ _ _ _ z1)
      (first
      | (go_at_call 21; (refine (clone_any A l.length c l w0.drew (H.out.below zr) rfl HS.out).mono ?_); rintro _ w1 ⟨A1, c1, rfl, hr1, hb1⟩; have HR1 := Lib.hid hr1; have z1 : Below w0.heap.size w0 w1 := keep_call hb1 zr; clear hr1)
      | (go_at_call 21; (refine (clone_any A l.length c l _ (H.out.below (zr.alloc (Nat.le_refl _) _)) rfl HS.out).mono ?_); rintro _ w1 ⟨A1, c1, rfl, hr1, hb1⟩; have HR1 := Lib.hid hr1; have z1 : Below w0.heap.size w0 w1 := (zr.alloc (Nat.le_refl _) _).trans (hb1.mono (by simp)); have e1 := (Bp.new w0).drew.after hb1; have E1 := Lib.hid e1; obtain ⟨d0, d1, d2, d3, d4, d5, d6, d7, d8, d9, d10, d11⟩ := e1.cells; have fz := e1.free; clear hr1 e1))
    · go_wp2_with fail
      go_meet
      exact ⟨w1.heap.size, A1, c1, rfl, Lib.hid (heap_alloc_new _ _), Lib.hid ((HR1.out.rx (Nat.le_refl _) (.inr (Nat.le_refl _))).after (bel_alloc w1 _)), Lib.hid (z1.alloc z1.size _), Lib.hid z1.size⟩
    · go_wp2_with fail
      go_meet
      change ∃ (g : Nat) (A' : Option Addr) (c' : Nat), Value.pointer (some ⟨w0.heap.size, 0, none⟩) = .pointer (some ⟨g, 0, none⟩) ∧ Hid (Bp (pp w1 w0.heap.size ⟨o, p, q, v, x, y, s⟩ W D J S (.slice A1 l.length c1)) g ⟨o, p, q, v, x, y, s⟩ W D J S (.slice A' l.length c')) ∧ Hid (Rx w0.heap.size g (pp w1 w0.heap.size ⟨o, p, q, v, x, y, s⟩ W D J S (.slice A1 l.length c1)) A' l) ∧ Hid (Below w0.heap.size w0 (pp w1 w0.heap.size ⟨o, p, q, v, x, y, s⟩ W D J S (.slice A1 l.length c1))) ∧ Hid (w0.heap.size ≤ g)
      exact ⟨w0.heap.size, A1, c1, rfl, Lib.hid (E1.out.pp _ _ _ _ _ _), Lib.hid ((HR1.out.rx (by simp) (.inl (by simp))).pp _ _ _ _ _ _), Lib.hid (below_pp z1 (Nat.le_refl _) _ _ _ _ _ _), Lib.hid (Nat.le_refl _)⟩
  case rest =>
    obtain ⟨g, A', c', rfl, HB, HR, HZ, HL⟩ := hcut
    obtain ⟨_, b0, b1, b2, b3⟩ := BX.below HZ.out
    obtain ⟨a0, a1, a2, a3, a4, a5, a6⟩ := (BF.after HZ.out).cells
    go_wp2_with fail
    refine (Tells.of (goes_any W D J S 0 4 A l.length c l ⟨o, p, q, v, x, y, s⟩ _ rfl) (v' := .bool true) (by rw [HG.out])).mono ?_
    rintro _ w3 ⟨rfl, z3⟩
    have HB3 := Lib.hid (HB.out.after z3)
    have HR3 := Lib.hid (HR.out.after z3)
    have z30 := keep_call z3 HZ.out
    have B03 := B0.after z30
    obtain ⟨b0, b1, b2, b3, b4, b5, b6, b7, b8, b9, b10, b11⟩ := HB3.out.cells
    obtain ⟨d0, d1, d2, d3, d4, d5, d6⟩ := B03.cells
    have fz := B03.free
    go_wp2_with fail
    have hl2 : w.heap.size ≤ w.heap.size + 1 + 1 := by omega
    have hh2 : w.heap.size + 1 + 1 < w0.heap.size := by omega
    have hz2 : w.heap.size ≤ w0.heap.size := by omega
    have HL2 := Lib.hid (Nat.le_trans HL.out (Nat.le_of_lt HB3.out.lt))
    have HLL := HL.out
    have hn0 : w0.heap.size ≤ w0.heap.size := Nat.le_refl _
    have hHeld0 : (fun w' => w'.cell? ⟨w.heap.size + 1, 1, none⟩ = some (.int .i64 p) ∧ Below w0.heap.size w0 w') w3 := ⟨((BF.after z30).cells).2.1, z30⟩
    have HK := Lib.hid (show ∀ x', Below w0.heap.size w0 x' → (fun w' => w'.cell? ⟨w.heap.size + 1, 1, none⟩ = some (.int .i64 p) ∧ Below w0.heap.size w0 w') x' from fun x' hx => ⟨((BF.after hx).cells).2.1, hx⟩)
    have HB0 := Lib.hid B0
    clear hz z3 HZ HL B03 a0 a1 a2 a3 a4 a5 a6 B0
    rcases HF.out with ⟨e, rfl⟩ | ⟨e, rfl⟩ | ⟨e, rfl⟩ | ⟨e, rfl⟩
    all_goals
      try simp only at e
      subst e
      clear HF
    · go_region_held3 (fun w' => w'.cell? ⟨w.heap.size + 1, 1, none⟩ = some (.int .i64 0) ∧ Below w0.heap.size w0 w')
        (first | with_reducible exact hd_drew HK.out (fun _ h => h.2) (by assumption) | with_reducible exact hd_call HK.out (fun _ h => h.2) (by assumption) (by assumption) hn0 | with_reducible exact HK.out _ (by assumption))
        (first
        | (go_at_call 104; (refine (psteps_any _ _).mono ?_); rintro _ w4 ⟨rfl, hb4⟩; have z4 := keep_call hb4 z30.drew; have HB4 := Lib.hid (HB3.out.drew.after hb4); have HR4 := Lib.hid (HR3.out.drew.after hb4))
        | (go_at_call 123; (refine (CC.out w0.heap.size g A' c' _ HB4.out HR4.out z4.size).mono ?_); rintro _ w5 ⟨A5, c5, rfl, hb5, hr5, hz5⟩; have z5 : Below w0.heap.size w0 w5 := z4.trans (hz5.mono HLL); have HB5 := Lib.hid hb5; have HR5 := Lib.hid hr5; clear hb5 hr5))
      all_goals
        have B03 := HB0.out.after z5
        have HZ5 := Lib.hid (Z.trans (z5.mono hz2))
        obtain ⟨b0, b1, b2, b3, b4, b5, b6, b7, b8, b9, b10, b11⟩ := HB5.out.cells
        obtain ⟨d0, d1, d2, d3, d4, d5, d6⟩ := B03.cells
        have fz := B03.free
        clear z4 hz5 z5 hb4
        go_wp2_with fail
        go_region
        all_goals
          go_wp2
          change bodyPost _ _ _ _ _ (pf w5 (w.heap.size + 1 + 1) f').drew
          refine bodyPost_ret (results_fr Tryz.results89 _ rfl ((B03.pf _).drew)) rfl ?_
          exact ⟨A5, c5, rfl, ((HR5.out.rn.pf hh2 _).drew).mono hz2, (below_pf HZ5.out hl2 _).drew⟩
    · go_region_held3 (fun w' => w'.cell? ⟨w.heap.size + 1, 1, none⟩ = some (.int .i64 1) ∧ Below w0.heap.size w0 w')
        (first | with_reducible exact hd_drew HK.out (fun _ h => h.2) (by assumption) | with_reducible exact hd_call HK.out (fun _ h => h.2) (by assumption) (by assumption) hn0 | with_reducible exact HK.out _ (by assumption))
        (first
        | (go_at_call 104; (refine (psteps_any _ _).mono ?_); rintro _ w4 ⟨rfl, hb4⟩; have z4 := keep_call hb4 z30.drew; have HB4 := Lib.hid (HB3.out.drew.after hb4); have HR4 := Lib.hid (HR3.out.drew.after hb4))
        | (go_at_call 124; (refine (CC.out w0.heap.size g A' c' _ HB4.out HR4.out z4.size).mono ?_); rintro _ w5 ⟨A5, c5, rfl, hb5, hr5, hz5⟩; have z5 : Below w0.heap.size w0 w5 := z4.trans (hz5.mono HLL); have HB5 := Lib.hid hb5; have HR5 := Lib.hid hr5; clear hb5 hr5))
      all_goals
        have B03 := HB0.out.after z5
        have HZ5 := Lib.hid (Z.trans (z5.mono hz2))
        obtain ⟨b0, b1, b2, b3, b4, b5, b6, b7, b8, b9, b10, b11⟩ := HB5.out.cells
        obtain ⟨d0, d1, d2, d3, d4, d5, d6⟩ := B03.cells
        have fz := B03.free
        clear z4 hz5 z5 hb4
        go_wp2_with fail
        go_region
        all_goals
          go_wp2
          change bodyPost _ _ _ _ _ (pf w5 (w.heap.size + 1 + 1) f').drew
          refine bodyPost_ret (results_fr Tryz.results89 _ rfl ((B03.pf _).drew)) rfl ?_
          exact ⟨A5, c5, rfl, ((HR5.out.rn.pf hh2 _).drew).mono hz2, (below_pf HZ5.out hl2 _).drew⟩
    · go_region_held3 (fun w' => w'.cell? ⟨w.heap.size + 1, 1, none⟩ = some (.int .i64 2) ∧ Below w0.heap.size w0 w')
        (first | with_reducible exact hd_drew HK.out (fun _ h => h.2) (by assumption) | with_reducible exact hd_call HK.out (fun _ h => h.2) (by assumption) (by assumption) hn0 | with_reducible exact HK.out _ (by assumption))
        (first
        | (go_at_call 104; (refine (psteps_any _ _).mono ?_); rintro _ w4 ⟨rfl, hb4⟩; have z4 := keep_call hb4 z30.drew; have HB4 := Lib.hid (HB3.out.drew.after hb4); have HR4 := Lib.hid (HR3.out.drew.after hb4))
        | (go_at_call 125; (refine (CC.out w0.heap.size g A' c' _ HB4.out HR4.out z4.size).mono ?_); rintro _ w5 ⟨A5, c5, rfl, hb5, hr5, hz5⟩; have z5 : Below w0.heap.size w0 w5 := z4.trans (hz5.mono HLL); have HB5 := Lib.hid hb5; have HR5 := Lib.hid hr5; clear hb5 hr5))
      all_goals
        have B03 := HB0.out.after z5
        have HZ5 := Lib.hid (Z.trans (z5.mono hz2))
        obtain ⟨b0, b1, b2, b3, b4, b5, b6, b7, b8, b9, b10, b11⟩ := HB5.out.cells
        obtain ⟨d0, d1, d2, d3, d4, d5, d6⟩ := B03.cells
        have fz := B03.free
        clear z4 hz5 z5 hb4
        go_wp2_with fail
        go_region
        all_goals
          go_wp2
          change bodyPost _ _ _ _ _ (pf w5 (w.heap.size + 1 + 1) f').drew
          refine bodyPost_ret (results_fr Tryz.results89 _ rfl ((B03.pf _).drew)) rfl ?_
          exact ⟨A5, c5, rfl, ((HR5.out.rn.pf hh2 _).drew).mono hz2, (below_pf HZ5.out hl2 _).drew⟩
    · go_region_held3 (fun w' => w'.cell? ⟨w.heap.size + 1, 1, none⟩ = some (.int .i64 3) ∧ Below w0.heap.size w0 w')
        (first | with_reducible exact hd_drew HK.out (fun _ h => h.2) (by assumption) | with_reducible exact hd_call HK.out (fun _ h => h.2) (by assumption) (by assumption) hn0 | with_reducible exact HK.out _ (by assumption))
        (first
        | (go_at_call 104; (refine (psteps_any _ _).mono ?_); rintro _ w4 ⟨rfl, hb4⟩; have z4 := keep_call hb4 z30.drew; have HB4 := Lib.hid (HB3.out.drew.after hb4); have HR4 := Lib.hid (HR3.out.drew.after hb4))
        | (go_at_call 126; (refine (CC.out w0.heap.size g A' c' _ HB4.out HR4.out z4.size).mono ?_); rintro _ w5 ⟨A5, c5, rfl, hb5, hr5, hz5⟩; have z5 : Below w0.heap.size w0 w5 := z4.trans (hz5.mono HLL); have HB5 := Lib.hid hb5; have HR5 := Lib.hid hr5; clear hb5 hr5))
      all_goals
        have B03 := HB0.out.after z5
        have HZ5 := Lib.hid (Z.trans (z5.mono hz2))
        obtain ⟨b0, b1, b2, b3, b4, b5, b6, b7, b8, b9, b10, b11⟩ := HB5.out.cells
        obtain ⟨d0, d1, d2, d3, d4, d5, d6⟩ := B03.cells
        have fz := B03.free
        clear z4 hz5 z5 hb4
        go_wp2_with fail
        go_region
        all_goals
          go_wp2
          change bodyPost _ _ _ _ _ (pf w5 (w.heap.size + 1 + 1) f').drew
          refine bodyPost_ret (results_fr Tryz.results89 _ rfl ((B03.pf _).drew)) rfl ?_
          exact ⟨A5, c5, rfl, ((HR5.out.rn.pf hh2 _).drew).mono hz2, (below_pf HZ5.out hl2 _).drew⟩
end Go.Proofs.YtlpkccpijloidaaGreat
namespace Go.Proofs.YtlpkccpijloidaaGreat
set_option maxRecDepth 100000
open Go.RowKit Go.Deep
theorem ow_ok {W D J S : Int} {m : List Int} {w : Int} (h : okw W D J S m w = true) (k : Int) : ow W D J S w k = bg D J w + k := by
  obtain ⟨a, _, c, d⟩ := okw_iff.1 h
  unfold ow
  rw [a, wi_true.2 ⟨c, by omega⟩]; rfl
theorem sl_ok {W D J S : Int} {m : List Int} {w : Int} (h : okw W D J S m w = true) (x : Int) : sl W D J S w x = sI D J w x := by
  obtain ⟨a, _, c, d⟩ := okw_iff.1 h
  unfold sl sI
  rw [a, wi_true.2 ⟨c, by omega⟩]; rfl
theorem RetS.of {w : World} {l l' : List Int} {f f' : Fr} {P : Program} {F : FuncId} {args : Array Value} (h : Calls P F args w (RetS w l f)) (e : (l, f) = (l', f')) : Calls P F args w (RetS w l' f') := by
  injection e with e1 e2
  rw [← e1, ← e2]; exact h
theorem Lv.of {lo : Nat} {w : World} {g : Nat} {f f' : Fr} {W D J S : Int} {l l' : List Int} {P : Program} {F : FuncId} {args : Array Value} (h : Calls P F args w (Lv lo w g f W D J S l)) (e1 : f = f') (e2 : l = l') : Calls P F args w (Lv lo w g f' W D J S l') := by
  rw [← e1, ← e2]; exact h
theorem step_any (W D J S : Int) (A : Option Addr) (c : Nat) (l : List Int) (f : Fr) (w : World) (h : Rd w A l) (hs : l.length ≤ 500) (hf : UF f) :
    Calls Tryz.prog 89 #[cf W D J S, .slice A l.length c, fv f] w (RetS w (pushS W D J S l f).1 (pushS W D J S l f).2) := by
  cases hg : goes W D J S l f 0 4
  · have e : pushS W D J S l f = (l, f) := by unfold pushS; rw [hg]; rfl
    rw [e]
    exact step_leave W D J S A c l f w h hs hg
  · obtain ⟨hk, hr, ho, h0, h4⟩ := goes_iff.1 hg
    obtain ⟨hW, hD, hJ, hS⟩ := may_lim (okw_iff.1 hk).1
    have hp : f.pc = 0 ∨ f.pc = 1 ∨ f.pc = 2 ∨ f.pc = 3 := by omega
    unfold pushS
    rw [if_pos hg]
    rcases hp with hp | hp | hp | hp
    · rw [if_pos hp]
      exact step_deed 123 W D J S A c l l f _ w h hs hg (.inl ⟨hp, rfl⟩) (fun lo g A c w hB hA _ => Lv.of (loadBottom_any lo g f W D J S A c l w hB hA hs) (by rw [ow_ok hk]) rfl)
    · rw [if_neg (by omega), if_pos hp]
      by_cases hd : D ≤ (f.x - at0 l (bg D J f.who)) % 18446744073709551616
      · rw [if_pos hd]
        exact step_deed 124 W D J S A c l l f _ w h hs hg (.inr (.inl ⟨hp, rfl⟩)) (fun lo g A c w hB hA _ => loadTop_any lo g f W D J S _ true A c l w hB hA hs hD (by rw [ow_ok hk, Int.add_zero]) (decide_eq_true hd) _ rfl)
      · rw [if_neg hd]
        exact step_deed 124 W D J S A c l l f _ w h hs hg (.inr (.inl ⟨hp, rfl⟩)) (fun lo g A c w hB hA _ => loadTop_any lo g f W D J S _ false A c l w hB hA hs hD (by rw [ow_ok hk, Int.add_zero]) (decide_eq_false hd) _ rfl)
    · rw [if_neg (by omega), if_neg (by omega), if_pos hp]
      exact step_deed 125 W D J S A c l _ f _ w h hs hg (.inr (.inr (.inl ⟨hp, rfl⟩))) (fun lo g A c w hB hA hlo => Lv.of (storeVal_any lo g f W D J S A c l w hB hA hlo hs hf.2.1) rfl (by rw [sl_ok hk]))
    · rw [if_neg (by omega), if_neg (by omega), if_neg (by omega)]
      exact step_deed 126 W D J S A c l _ f _ w h hs hg (.inr (.inr (.inr ⟨hp, rfl⟩))) (fun lo g A c w hB hA hlo => Lv.of (storeBottom_any lo g f W D J S A c l w hB hA hlo hs) rfl (by rw [ow_ok hk]))
end Go.Proofs.YtlpkccpijloidaaGreat
namespace Go.Proofs.YtlpkccpijloidaaGreat
set_option maxRecDepth 100000
open Go.RowKit Go.Deep
/-- What a call that tells a list leaves: the list, in memory that may be read, and whether there is one. -/
def RetL (w : World) (o : Option (List Int)) (e : Ending) (w' : World) : Prop :=
  ∃ A c, e = .returned (.tuple #[.slice A (o.getD []).length c, .bool o.isSome]) ∧ (o.getD []).length ≤ c ∧ Rd w' A (o.getD []) ∧ Below w.heap.size w w'
theorem Own.after {w w' : World} {base : Nat} {A : Option Addr} {n c : Nat} {l : List Int} (h : Own w base A n c l) (hb : Below w.heap.size w w') : Own w' base A n c l := by
  refine ⟨h.1, ?_⟩
  rcases h.2 with h2 | ⟨g, cap, cur, hv, hb0, hg, hr⟩
  · exact .inl h2
  · exact .inr ⟨g, cap, cur, hv, hb0, (hb.block g (Array.getElem?_eq_some_iff.1 hg).1).trans hg, hr⟩
theorem Own.nil (w : World) (base : Nat) : Own w base none 0 0 [] := World.ownsRow_nil _ _ _ _
theorem Own.cap {w : World} {base : Nat} {A : Option Addr} {n c : Nat} {l : List Int} (h : Own w base A n c l) : n ≤ c := by
  rcases h.2 with ⟨hv, hx⟩ | ⟨g, cap, cur, hv, hb, hg, hn, _⟩
  · omega
  · injection hv with _ _ hc
    rw [hc]; exact hn
/-- The first numbers of a deque, from T on. -/
def lN (D J : Int) (m : List Int) (x T : Int) (j : Nat) : List Int := (List.range j).map fun i : Nat => at0 m (sI D J x (T + i))
end Go.Proofs.YtlpkccpijloidaaGreat
namespace Go.Proofs.YtlpkccpijloidaaGreat
set_option maxRecDepth 100000
open Go.RowKit Go.Deep
/-- All blocks but block g stay. -/
structure Kb (g : Nat) (w w' : World) : Prop where
  low : Below g w w'
  others : ∀ b, b < w.heap.size → b ≠ g → w'.heap[b]? = w.heap[b]?
theorem Kb.refl (g : Nat) (w : World) : Kb g w w := ⟨Below.refl _ _, fun _ _ _ => rfl⟩
theorem Kb.size {g : Nat} {w w' : World} (h : Kb g w w') : w.heap.size ≤ w'.heap.size := h.low.size
theorem Kb.call {g : Nat} {w w1 w2 : World} (h : Kb g w w1) (hg : g < w.heap.size) (hb : Below w1.heap.size w1 w2) : Kb g w w2 :=
  ⟨h.low.trans (hb.mono (Nat.le_trans (Nat.le_of_lt hg) h.size)), fun b h1 h2 => (hb.block b (Nat.lt_of_lt_of_le h1 h.size)).trans (h.others b h1 h2)⟩
theorem Kb.set {g : Nat} {w w1 : World} (h : Kb g w w1) (k : Nat) (v : Value) : Kb g w (w1.setCell ⟨g, k, none⟩ v) :=
  ⟨h.low.setCell (Nat.le_refl _) _, fun b h1 h2 => (Below.heap_setCell w1 ⟨g, k, none⟩ v b h2).trans (h.others b h1 h2)⟩
theorem Kb.pf {g : Nat} {w w1 : World} (h : Kb g w w1) (f : Fr) : Kb g w (pf w1 g f) :=
  ((((((h.set 0 _).set 1 _).set 2 _).set 3 _).set 4 _).set 5 _).set 6 _
theorem Kb.drew {g : Nat} {w w' : World} (h : Kb g w w') : Kb g w w'.drew := ⟨h.low.drew, h.others⟩
theorem Bx.kb {g c : Nat} {w w' : World} {W D J S : Int} (h : Bx w c W D J S) (hk : Kb g w w') (hc : c ≠ g) : Bx w' c W D J S := by
  have e : w'.heap[c]? = w.heap[c]? := hk.others c h.1 hc
  exact ⟨Nat.lt_of_lt_of_le h.1 hk.size, (World.cell?_of_block e).trans h.2.1, (World.cell?_of_block e).trans h.2.2.1, (World.cell?_of_block e).trans h.2.2.2.1, (World.cell?_of_block e).trans h.2.2.2.2⟩
theorem Bf.kb {g c : Nat} {w w' : World} {f : Fr} (h : Bf w c f) (hk : Kb g w w') (hc : c ≠ g) : Bf w' c f := (hk.others c h.lt hc).trans h
theorem Rx.kb {lo g : Nat} {w w' : World} {A : Option Addr} {l : List Int} (h : Rx lo g w A l) (hk : Kb g w w') : Rx lo g w' A l := fun hp => by
  obtain ⟨ad, e, hl, hne, hlt, hc⟩ := h hp
  exact ⟨ad, e, hl, hne, Nat.lt_of_lt_of_le hlt hk.size, fun j u hu => (World.cell?_of_block (by rw [block_add]; exact hk.others _ hlt hne)).trans (hc j u hu)⟩
theorem Rd.rx {g : Nat} {w : World} {A : Option Addr} {l : List Int} (h : Rd w A l) (hg : w.heap.size ≤ g) : Rx 0 g w A l := fun hp => by
  obtain ⟨ad, e, hlt, hc⟩ := h hp
  exact ⟨ad, e, Nat.zero_le _, by omega, hlt, hc⟩
/-- A step, where the cells are as many as before. -/
theorem step_n {W D J S : Int} {A : Option Addr} {n c : Nat} {l : List Int} {f : Fr} {w : World} (h : Rd w A l) (hn : l.length = n) (hs : n ≤ 500) (hf : UF f) {l' : List Int} {f' : Fr} (e : pushS W D J S l f = (l', f')) :
    Calls Tryz.prog 89 #[cf W D J S, .slice A n c, fv f] w fun e w' => ∃ A' c', e = .returned (.tuple #[.slice A' n c', fv f']) ∧ Rn w.heap.size w' A' l' ∧ Below w.heap.size w w' := by
  subst hn
  have h2 := step_any W D J S A c l f w h hs hf
  have hl := pushS_len W D J S l f
  rw [e] at h2 hl
  refine h2.mono ?_
  rintro _ w' ⟨A', c', rfl, h3, h4⟩
  exact ⟨A', c', by rw [show l'.length = l.length from hl], h3, h4⟩
/-- The cells of the chapter's example. -/
def ex0 : List Int := List.replicate 12 0
theorem U0 : U 0 := by unfold U; omega
end Go.Proofs.YtlpkccpijloidaaGreat
