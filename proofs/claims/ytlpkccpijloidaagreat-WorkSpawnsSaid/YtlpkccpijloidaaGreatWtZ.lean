/- Merged: WtD, WtE. -/
import Derived.Test.YtlpkccpijloidaaGreatWtY
import Derived.Test.YtlpkccpijloidaaGreatPu0
import Derived.Test.YtlpkccpijloidaaGreatFr0
import Derived.Test.YtlpkccpijloidaaGreatPuG2
import Derived.Test.YtlpkccpijloidaaGreatDqB2
import Derived.Deep.CutRange
import Derived.Deep.DeepCutAuto
namespace Go.Proofs.YtlpkccpijloidaaGreat
set_option maxRecDepth 100000
open Go.RowKit Go.Deep
theorem prk_op (o p q v x y s : Int) (w : World) (ho : (o == 5) = false) : Tells 32 #[fv ⟨o, p, q, v, x, y, s⟩] w (.bool false) := by
  go_enter Tryz.func32, Tryz.ntmps32
  go_wp2
  go_ret
  exact ⟨rfl, box_below _ _⟩
theorem prk_over (o p q v x y s : Int) (w : World) (ho : (o == 5) = true) (hs : (s != 0) = true) : Tells 32 #[fv ⟨o, p, q, v, x, y, s⟩] w (.bool false) := by
  have HV := Lib.hid hs
  clear hs
  go_enter Tryz.func32, Tryz.ntmps32
  go_wp2_with fail
  refine (Tells.of (over_any ⟨o, p, q, v, x, y, s⟩ _) (v' := .bool true) (by rw [← HV.out])).mono ?_
  rintro _ w1 ⟨rfl, z⟩
  have BF := (Bf.new w ⟨o, p, q, v, x, y, s⟩).after z
  obtain ⟨a0, a1, a2, a3, a4, a5, a6⟩ := BF.cells
  simp only at a0 a1 a2 a3 a4 a5 a6
  have Z := Lib.hid ((box_below w _).trans (z.mono (by simp)))
  clear z
  go_wp2
  go_ret
  exact ⟨rfl, Z.out⟩
theorem prk_pc (o p q v x y s : Int) (w : World) (ho : (o == 5) = true) (hs : (s != 0) = false) : Tells 32 #[fv ⟨o, p, q, v, x, y, s⟩] w (.bool (p == 3)) := by
  have HV := Lib.hid hs
  clear hs
  go_enter Tryz.func32, Tryz.ntmps32
  go_wp2_with fail
  refine (Tells.of (over_any ⟨o, p, q, v, x, y, s⟩ _) (v' := .bool false) (by rw [← HV.out])).mono ?_
  rintro _ w1 ⟨rfl, z⟩
  have BF := (Bf.new w ⟨o, p, q, v, x, y, s⟩).after z
  obtain ⟨a0, a1, a2, a3, a4, a5, a6⟩ := BF.cells
  simp only at a0 a1 a2 a3 a4 a5 a6
  have Z := Lib.hid ((box_below w _).trans (z.mono (by simp)))
  clear z
  go_wp2
  go_ret
  exact ⟨rfl, Z.out⟩
theorem prk_any (f : Fr) (w : World) : Tells 32 #[fv f] w (.bool (prk f)) := by
  obtain ⟨o, p, q, v, x, y, s⟩ := f
  unfold prk
  cases h1 : (o == 5)
  · rw [show (decide (o = 5) && decide (s = 0) && decide (p = 3)) = false by
      have : decide (o = 5) = false := by simpa using h1
      simp [this]]
    exact prk_op o p q v x y s w h1
  · cases h2 : (s != 0)
    · rw [show (decide (o = 5) && decide (s = 0) && decide (p = 3)) = (p == 3) by
        have e1 : decide (o = 5) = true := by simpa using h1
        have e2 : decide (s = 0) = true := by simpa using h2
        rw [e1, e2]; exact Bool.eq_iff_iff.2 (by simp)]
      exact prk_pc o p q v x y s w h1 h2
    · rw [show (decide (o = 5) && decide (s = 0) && decide (p = 3)) = false by
        have : decide (s = 0) = false := by simpa using h2
        simp [this]]
      exact prk_over o p q v x y s w h1 h2
    attribute [local go_sem] run_store_func run_makeFunc
theorem wdeeds_any (w : World) : Tells 101 #[] w (.agg #[.func (.func 112) #[] #[], .func (.func 113) #[] #[], .func (.func 114) #[] #[], .func (.func 115) #[] #[], .func (.func 116) #[] #[]]) := by
  go_enter Tryz.func101, Tryz.ntmps101
  go_wp2
  refine bodyPost_ret (by simp [results, Tryz.results101, go_sem]; try rfl) rfl ?_
  exact ⟨rfl, (Below.refl _ _).alloc (Nat.le_refl _) _⟩
end Go.Proofs.YtlpkccpijloidaaGreat
namespace Go.Proofs.YtlpkccpijloidaaGreat
set_option maxRecDepth 100000
open Go.RowKit Go.Deep
set_option maxHeartbeats 4000000 in
theorem wstep_leave (W D J S : Int) (A : Option Addr) (c : Nat) (l : List Int) (f : Fr) (w : World) (h : Rd w A l) (hs : l.length ≤ 500) (hg : goes W D J S l f 5 5 = false) :
    Calls Tryz.prog 87 #[cf W D J S, .slice A l.length c, fv f] w (RetS w l f) := by
  obtain ⟨BX, BF, B0, Z, hz⟩ := boxes3 w W D J S f
  have H := Lib.hid (h.below Z); clear h
  have HS := Lib.hid hs; clear hs
  have HG := Lib.hid hg; clear hg
  obtain ⟨o, p, q, v, x, y, s⟩ := f
  go_enter Tryz.func87, Tryz.ntmps87
  go_upto_region 1 with fail
  change Code.wp _ _ _ _ (bx3 w W D J S ⟨o, p, q, v, x, y, s⟩)
  generalize bx3 w W D J S ⟨o, p, q, v, x, y, s⟩ = w0 at BX BF B0 Z hz H ⊢
  go_cut [8] from 8 to 13 (fun t wr => ∃ (g : Nat) (A' : Option Addr) (c' : Nat), t = .pointer (some ⟨g, 0, none⟩) ∧ Hid (Bw wr g ⟨o, p, q, v, x, y, s⟩ W D J S (.slice A' l.length c')) ∧ Hid (Rx w0.heap.size g wr A' l) ∧ Hid (Below w0.heap.size w0 wr) ∧ Hid (w0.heap.size ≤ g))
  case first =>
    have HZ := Lib.hid hz
    clear hz
    have HK := Lib.hid (show ∀ x', Below w0.heap.size w0 x' → (fun w' => w'.cell? ⟨w.heap.size, 0, none⟩ = some (.int .i64 W) ∧ w'.cell? ⟨w.heap.size, 1, none⟩ = some (.int .i64 D) ∧ w'.cell? ⟨w.heap.size, 2, none⟩ = some (.int .i64 J) ∧ w'.cell? ⟨w.heap.size, 3, none⟩ = some (.int .i64 S) ∧ w'.cell? ⟨w.heap.size + 1, 0, none⟩ = some (.int .i64 o) ∧ w'.cell? ⟨w.heap.size + 1, 1, none⟩ = some (.int .i64 p) ∧ w'.cell? ⟨w.heap.size + 1, 2, none⟩ = some (.int .i64 q) ∧ w'.cell? ⟨w.heap.size + 1, 3, none⟩ = some (.int .u64 v) ∧ w'.cell? ⟨w.heap.size + 1, 4, none⟩ = some (.int .u64 x) ∧ w'.cell? ⟨w.heap.size + 1, 5, none⟩ = some (.int .u64 y) ∧ w'.cell? ⟨w.heap.size + 1, 6, none⟩ = some (.int .i64 s) ∧ Below w0.heap.size w0 w') x' from fun x' hx => by
      obtain ⟨_, e0, e1, e2, e3⟩ := BX.below hx
      obtain ⟨f0, f1, f2, f3, f4, f5, f6⟩ := (BF.after hx).cells
      exact ⟨e0, e1, e2, e3, f0, f1, f2, f3, f4, f5, f6, hx⟩)
    have hHeld0 := HK.out _ (Below.refl _ _)
    have hn0 : w0.heap.size ≤ w0.heap.size := Nat.le_refl _
    have zr := (Below.refl w0.heap.size w0).drew
    go_region_held3 (fun w' => w'.cell? ⟨w.heap.size, 0, none⟩ = some (.int .i64 W) ∧ w'.cell? ⟨w.heap.size, 1, none⟩ = some (.int .i64 D) ∧ w'.cell? ⟨w.heap.size, 2, none⟩ = some (.int .i64 J) ∧ w'.cell? ⟨w.heap.size, 3, none⟩ = some (.int .i64 S) ∧ w'.cell? ⟨w.heap.size + 1, 0, none⟩ = some (.int .i64 o) ∧ w'.cell? ⟨w.heap.size + 1, 1, none⟩ = some (.int .i64 p) ∧ w'.cell? ⟨w.heap.size + 1, 2, none⟩ = some (.int .i64 q) ∧ w'.cell? ⟨w.heap.size + 1, 3, none⟩ = some (.int .u64 v) ∧ w'.cell? ⟨w.heap.size + 1, 4, none⟩ = some (.int .u64 x) ∧ w'.cell? ⟨w.heap.size + 1, 5, none⟩ = some (.int .u64 y) ∧ w'.cell? ⟨w.heap.size + 1, 6, none⟩ = some (.int .i64 s) ∧ Below w0.heap.size w0 w')
      (first | with_reducible exact hd_drew HK.out (fun _ h => h.2.2.2.2.2.2.2.2.2.2.2) (by assumption) | with_reducible exact hd_alloc HK.out (fun _ h => h.2.2.2.2.2.2.2.2.2.2.2) hn0 _ (by assumption) | with_reducible exact hd_alloc_drew HK.out (fun _ h => h.2.2.2.2.2.2.2.2.2.2.2) hn0 _ (by assumption) | with_reducible exact hd_call HK.out (fun _ h => h.2.2.2.2.2.2.2.2.2.2.2) (by assumption) (by assumption) hn0 | with_reducible exact HK.out _ (z1.alloc z1.size _) | with_reducible exact hd_set12 HK.out (Nat.le_refl _) _ _ _ _ _ _ _ _ _ _ _ _ z1)
      (first
      | (go_at_call 21; (refine (clone_any A l.length c l w0.drew (H.out.below zr) rfl HS.out).mono ?_); rintro _ w1 ⟨A1, c1, rfl, hr1, hb1⟩; have HR1 := Lib.hid hr1; have z1 : Below w0.heap.size w0 w1 := keep_call hb1 zr; clear hr1)
      | (go_at_call 21; (refine (clone_any A l.length c l _ (H.out.below (zr.alloc (Nat.le_refl _) _)) rfl HS.out).mono ?_); rintro _ w1 ⟨A1, c1, rfl, hr1, hb1⟩; have HR1 := Lib.hid hr1; have z1 : Below w0.heap.size w0 w1 := (zr.alloc (Nat.le_refl _) _).trans (hb1.mono (by simp)); have e1 := (Bw.new w0).drew.after hb1; have E1 := Lib.hid e1; obtain ⟨d0, d1, d2, d3, d4, d5, d6, d7, d8, d9, d10, d11⟩ := e1.cells; have fz := e1.free; clear hr1 e1))
    · go_wp2_with fail
      go_meet
      exact ⟨w1.heap.size, A1, c1, rfl, Lib.hid (heap_alloc_new _ _), Lib.hid ((HR1.out.rx (Nat.le_refl _) (.inr (Nat.le_refl _))).after (bel_alloc w1 _)), Lib.hid (z1.alloc z1.size _), Lib.hid z1.size⟩
    · go_wp2_with fail
      go_meet
      change ∃ (g : Nat) (A' : Option Addr) (c' : Nat), Value.pointer (some ⟨w0.heap.size, 0, none⟩) = .pointer (some ⟨g, 0, none⟩) ∧ Hid (Bw (pp w1 w0.heap.size ⟨o, p, q, v, x, y, s⟩ W D J S (.slice A1 l.length c1)) g ⟨o, p, q, v, x, y, s⟩ W D J S (.slice A' l.length c')) ∧ Hid (Rx w0.heap.size g (pp w1 w0.heap.size ⟨o, p, q, v, x, y, s⟩ W D J S (.slice A1 l.length c1)) A' l) ∧ Hid (Below w0.heap.size w0 (pp w1 w0.heap.size ⟨o, p, q, v, x, y, s⟩ W D J S (.slice A1 l.length c1))) ∧ Hid (w0.heap.size ≤ g)
      exact ⟨w0.heap.size, A1, c1, rfl, Lib.hid (E1.out.pp _ _ _ _ _ _), Lib.hid ((HR1.out.rx (by simp) (.inl (by simp))).pp _ _ _ _ _ _), Lib.hid (below_pp z1 (Nat.le_refl _) _ _ _ _ _ _), Lib.hid (Nat.le_refl _)⟩
  case rest =>
    obtain ⟨g, A', c', rfl, HB, HR, HZ, HL⟩ := hcut
    obtain ⟨_, b0, b1, b2, b3⟩ := BX.below HZ.out
    obtain ⟨a0, a1, a2, a3, a4, a5, a6⟩ := (BF.after HZ.out).cells
    go_wp2_with fail
    refine (Tells.of (goes_any W D J S 5 5 A l.length c l ⟨o, p, q, v, x, y, s⟩ _ rfl) (v' := .bool false) (by rw [HG.out])).mono ?_
    rintro _ w3 ⟨rfl, z3⟩
    have HB3 := Lib.hid (HB.out.after z3)
    have HR3 := Lib.hid (HR.out.after z3)
    have z30 := keep_call z3 HZ.out
    have B03 := B0.after z30
    obtain ⟨b0, b1, b2, b3, b4, b5, b6, b7, b8, b9, b10, b11⟩ := HB3.out.cells
    obtain ⟨d0, d1, d2, d3, d4, d5, d6⟩ := B03.cells
    have fz := B03.free
    go_wp2_with fail
    have HZ3 := Lib.hid (Z.trans (z30.mono (by omega)))
    have hl2 : w.heap.size ≤ w.heap.size + 1 + 1 := by omega
    have hh2 : w.heap.size + 1 + 1 < w0.heap.size := by omega
    have HG2 := Lib.hid (show w.heap.size + 1 + 1 < g from Nat.lt_of_lt_of_le hh2 HL.out)
    have hz2 : w.heap.size ≤ w0.heap.size := by omega
    clear hz z3 z30 HZ HL
    go_region
    all_goals
      go_wp2
      change bodyPost _ _ _ _ _ (pf w3 (w.heap.size + 1 + 1) ⟨o, p, q, v, x, y, s⟩).drew
      refine bodyPost_ret (results_fr Tryz.results87 _ rfl ((B03.pf _).drew)) rfl ?_
      exact ⟨A', c', rfl, ((HR3.out.rn.pf hh2 _).drew).mono hz2, (below_pf HZ3.out hl2 _).drew⟩
theorem index_wt0 (a b c d e : Value) (w : World) : (Instr.index 113 (.agg #[a, b, c, d, e]) (.int .i64 0)).run Tryz.prog w = .ok a w := by kernel_rfl
theorem index_wt1 (a b c d e : Value) (w : World) : (Instr.index 113 (.agg #[a, b, c, d, e]) (.int .i64 1)).run Tryz.prog w = .ok b w := by kernel_rfl
theorem index_wt2 (a b c d e : Value) (w : World) : (Instr.index 113 (.agg #[a, b, c, d, e]) (.int .i64 2)).run Tryz.prog w = .ok c w := by kernel_rfl
theorem index_wt3 (a b c d e : Value) (w : World) : (Instr.index 113 (.agg #[a, b, c, d, e]) (.int .i64 3)).run Tryz.prog w = .ok d w := by kernel_rfl
theorem index_wt4 (a b c d e : Value) (w : World) : (Instr.index 113 (.agg #[a, b, c, d, e]) (.int .i64 4)).run Tryz.prog w = .ok e w := by kernel_rfl
attribute [local go_sem] index_wt0 index_wt1 index_wt2 index_wt3 index_wt4
set_option maxHeartbeats 4000000 in
theorem wstep_deed (F : FuncId) (W D J S : Int) (A : Option Addr) (c : Nat) (l l' : List Int) (f f' : Fr) (w : World) (h : Rd w A l) (hs : l.length ≤ 500) (hg : goes W D J S l f 5 5 = true)
    (hF : f.pc = 0 ∧ F = 112 ∨ f.pc = 1 ∧ F = 113 ∨ f.pc = 2 ∧ F = 114 ∨ f.pc = 3 ∧ F = 115 ∨ f.pc = 4 ∧ F = 116)
    (C : ∀ (lo g : Nat) (A : Option Addr) (c : Nat) (w : World), Bw w g f W D J S (.slice A l.length c) → Rx lo g w A l → lo ≤ w.heap.size → Calls Tryz.prog F #[.pointer (some ⟨g, 0, none⟩)] w (Lw lo w g f' W D J S l')) :
    Calls Tryz.prog 87 #[cf W D J S, .slice A l.length c, fv f] w (RetS w l' f') := by
  obtain ⟨BX, BF, B0, Z, hz⟩ := boxes3 w W D J S f
  have H := Lib.hid (h.below Z); clear h
  have HS := Lib.hid hs; clear hs
  have HG := Lib.hid hg; clear hg
  have CC := Lib.hid C; clear C
  obtain ⟨o, p, q, v, x, y, s⟩ := f
  have HF := Lib.hid hF; clear hF
  go_enter Tryz.func87, Tryz.ntmps87
  go_upto_region 1 with fail
  change Code.wp _ _ _ _ (bx3 w W D J S ⟨o, p, q, v, x, y, s⟩)
  generalize bx3 w W D J S ⟨o, p, q, v, x, y, s⟩ = w0 at BX BF B0 Z hz H ⊢
  go_cut [8] from 8 to 13 (fun t wr => ∃ (g : Nat) (A' : Option Addr) (c' : Nat), t = .pointer (some ⟨g, 0, none⟩) ∧ Hid (Bw wr g ⟨o, p, q, v, x, y, s⟩ W D J S (.slice A' l.length c')) ∧ Hid (Rx w0.heap.size g wr A' l) ∧ Hid (Below w0.heap.size w0 wr) ∧ Hid (w0.heap.size ≤ g))
  case first =>
    have HZ := Lib.hid hz
    clear hz
    have HK := Lib.hid (show ∀ x', Below w0.heap.size w0 x' → (fun w' => w'.cell? ⟨w.heap.size, 0, none⟩ = some (.int .i64 W) ∧ w'.cell? ⟨w.heap.size, 1, none⟩ = some (.int .i64 D) ∧ w'.cell? ⟨w.heap.size, 2, none⟩ = some (.int .i64 J) ∧ w'.cell? ⟨w.heap.size, 3, none⟩ = some (.int .i64 S) ∧ w'.cell? ⟨w.heap.size + 1, 0, none⟩ = some (.int .i64 o) ∧ w'.cell? ⟨w.heap.size + 1, 1, none⟩ = some (.int .i64 p) ∧ w'.cell? ⟨w.heap.size + 1, 2, none⟩ = some (.int .i64 q) ∧ w'.cell? ⟨w.heap.size + 1, 3, none⟩ = some (.int .u64 v) ∧ w'.cell? ⟨w.heap.size + 1, 4, none⟩ = some (.int .u64 x) ∧ w'.cell? ⟨w.heap.size + 1, 5, none⟩ = some (.int .u64 y) ∧ w'.cell? ⟨w.heap.size + 1, 6, none⟩ = some (.int .i64 s) ∧ Below w0.heap.size w0 w') x' from fun x' hx => by
      obtain ⟨_, e0, e1, e2, e3⟩ := BX.below hx
      obtain ⟨f0, f1, f2, f3, f4, f5, f6⟩ := (BF.after hx).cells
      exact ⟨e0, e1, e2, e3, f0, f1, f2, f3, f4, f5, f6, hx⟩)
    have hHeld0 := HK.out _ (Below.refl _ _)
    have hn0 : w0.heap.size ≤ w0.heap.size := Nat.le_refl _
    have zr := (Below.refl w0.heap.size w0).drew
    go_region_held3 (fun w' => w'.cell? ⟨w.heap.size, 0, none⟩ = some (.int .i64 W) ∧ w'.cell? ⟨w.heap.size, 1, none⟩ = some (.int .i64 D) ∧ w'.cell? ⟨w.heap.size, 2, none⟩ = some (.int .i64 J) ∧ w'.cell? ⟨w.heap.size, 3, none⟩ = some (.int .i64 S) ∧ w'.cell? ⟨w.heap.size + 1, 0, none⟩ = some (.int .i64 o) ∧ w'.cell? ⟨w.heap.size + 1, 1, none⟩ = some (.int .i64 p) ∧ w'.cell? ⟨w.heap.size + 1, 2, none⟩ = some (.int .i64 q) ∧ w'.cell? ⟨w.heap.size + 1, 3, none⟩ = some (.int .u64 v) ∧ w'.cell? ⟨w.heap.size + 1, 4, none⟩ = some (.int .u64 x) ∧ w'.cell? ⟨w.heap.size + 1, 5, none⟩ = some (.int .u64 y) ∧ w'.cell? ⟨w.heap.size + 1, 6, none⟩ = some (.int .i64 s) ∧ Below w0.heap.size w0 w')
      (first | with_reducible exact hd_drew HK.out (fun _ h => h.2.2.2.2.2.2.2.2.2.2.2) (by assumption) | with_reducible exact hd_alloc HK.out (fun _ h => h.2.2.2.2.2.2.2.2.2.2.2) hn0 _ (by assumption) | with_reducible exact hd_alloc_drew HK.out (fun _ h => h.2.2.2.2.2.2.2.2.2.2.2) hn0 _ (by assumption) | with_reducible exact hd_call HK.out (fun _ h => h.2.2.2.2.2.2.2.2.2.2.2) (by assumption) (by assumption) hn0 | with_reducible exact HK.out _ (z1.alloc z1.size _) | with_reducible exact hd_set12 HK.out (Nat.le_refl _) _ _ _ _ _ _ _ _ _ _ _ _ z1)
      (first
      | (go_at_call 21; (refine (clone_any A l.length c l w0.drew (H.out.below zr) rfl HS.out).mono ?_); rintro _ w1 ⟨A1, c1, rfl, hr1, hb1⟩; have HR1 := Lib.hid hr1; have z1 : Below w0.heap.size w0 w1 := keep_call hb1 zr; clear hr1)
      | (go_at_call 21; (refine (clone_any A l.length c l _ (H.out.below (zr.alloc (Nat.le_refl _) _)) rfl HS.out).mono ?_); rintro _ w1 ⟨A1, c1, rfl, hr1, hb1⟩; have HR1 := Lib.hid hr1; have z1 : Below w0.heap.size w0 w1 := (zr.alloc (Nat.le_refl _) _).trans (hb1.mono (by simp)); have e1 := (Bw.new w0).drew.after hb1; have E1 := Lib.hid e1; obtain ⟨d0, d1, d2, d3, d4, d5, d6, d7, d8, d9, d10, d11⟩ := e1.cells; have fz := e1.free; clear hr1 e1))
    · go_wp2_with fail
      go_meet
      exact ⟨w1.heap.size, A1, c1, rfl, Lib.hid (heap_alloc_new _ _), Lib.hid ((HR1.out.rx (Nat.le_refl _) (.inr (Nat.le_refl _))).after (bel_alloc w1 _)), Lib.hid (z1.alloc z1.size _), Lib.hid z1.size⟩
    · go_wp2_with fail
      go_meet
      change ∃ (g : Nat) (A' : Option Addr) (c' : Nat), Value.pointer (some ⟨w0.heap.size, 0, none⟩) = .pointer (some ⟨g, 0, none⟩) ∧ Hid (Bw (pp w1 w0.heap.size ⟨o, p, q, v, x, y, s⟩ W D J S (.slice A1 l.length c1)) g ⟨o, p, q, v, x, y, s⟩ W D J S (.slice A' l.length c')) ∧ Hid (Rx w0.heap.size g (pp w1 w0.heap.size ⟨o, p, q, v, x, y, s⟩ W D J S (.slice A1 l.length c1)) A' l) ∧ Hid (Below w0.heap.size w0 (pp w1 w0.heap.size ⟨o, p, q, v, x, y, s⟩ W D J S (.slice A1 l.length c1))) ∧ Hid (w0.heap.size ≤ g)
      exact ⟨w0.heap.size, A1, c1, rfl, Lib.hid (E1.out.pp _ _ _ _ _ _), Lib.hid ((HR1.out.rx (by simp) (.inl (by simp))).pp _ _ _ _ _ _), Lib.hid (below_pp z1 (Nat.le_refl _) _ _ _ _ _ _), Lib.hid (Nat.le_refl _)⟩
  case rest =>
    obtain ⟨g, A', c', rfl, HB, HR, HZ, HL⟩ := hcut
    obtain ⟨_, b0, b1, b2, b3⟩ := BX.below HZ.out
    obtain ⟨a0, a1, a2, a3, a4, a5, a6⟩ := (BF.after HZ.out).cells
    go_wp2_with fail
    refine (Tells.of (goes_any W D J S 5 5 A l.length c l ⟨o, p, q, v, x, y, s⟩ _ rfl) (v' := .bool true) (by rw [HG.out])).mono ?_
    rintro _ w3 ⟨rfl, z3⟩
    have HB3 := Lib.hid (HB.out.after z3)
    have HR3 := Lib.hid (HR.out.after z3)
    have z30 := keep_call z3 HZ.out
    have B03 := B0.after z30
    obtain ⟨b0, b1, b2, b3, b4, b5, b6, b7, b8, b9, b10, b11⟩ := HB3.out.cells
    obtain ⟨d0, d1, d2, d3, d4, d5, d6⟩ := B03.cells
    have fz := B03.free
    go_wp2_with fail
    have hl2 : w.heap.size ≤ w.heap.size + 1 + 1 := by omega
    have hh2 : w.heap.size + 1 + 1 < w0.heap.size := by omega
    have hz2 : w.heap.size ≤ w0.heap.size := by omega
    have HL2 := Lib.hid (Nat.le_trans HL.out (Nat.le_of_lt HB3.out.lt))
    have HLL := HL.out
    have hn0 : w0.heap.size ≤ w0.heap.size := Nat.le_refl _
    have hHeld0 : (fun w' => w'.cell? ⟨w.heap.size + 1, 1, none⟩ = some (.int .i64 p) ∧ Below w0.heap.size w0 w') w3 := ⟨((BF.after z30).cells).2.1, z30⟩
    have HK := Lib.hid (show ∀ x', Below w0.heap.size w0 x' → (fun w' => w'.cell? ⟨w.heap.size + 1, 1, none⟩ = some (.int .i64 p) ∧ Below w0.heap.size w0 w') x' from fun x' hx => ⟨((BF.after hx).cells).2.1, hx⟩)
    have HB0 := Lib.hid B0
    clear hz z3 HZ HL B03 a0 a1 a2 a3 a4 a5 a6 B0
    rcases HF.out with ⟨e, rfl⟩ | ⟨e, rfl⟩ | ⟨e, rfl⟩ | ⟨e, rfl⟩ | ⟨e, rfl⟩
    all_goals
      try simp only at e
      subst e
      clear HF
    · go_region_held3 (fun w' => w'.cell? ⟨w.heap.size + 1, 1, none⟩ = some (.int .i64 0) ∧ Below w0.heap.size w0 w')
        (first | with_reducible exact hd_drew HK.out (fun _ h => h.2) (by assumption) | with_reducible exact hd_call HK.out (fun _ h => h.2) (by assumption) (by assumption) hn0 | with_reducible exact HK.out _ (by assumption))
        (first
        | (go_at_call 101; (refine (wdeeds_any _).mono ?_); rintro _ w4 ⟨rfl, hb4⟩; have z4 := keep_call hb4 z30.drew; have HB4 := Lib.hid (HB3.out.drew.after hb4); have HR4 := Lib.hid (HR3.out.drew.after hb4))
        | (go_at_call 112; (refine (CC.out w0.heap.size g A' c' _ HB4.out HR4.out z4.size).mono ?_); rintro _ w5 ⟨A5, c5, rfl, hb5, hr5, hz5⟩; have z5 : Below w0.heap.size w0 w5 := z4.trans (hz5.mono HLL); have HB5 := Lib.hid hb5; have HR5 := Lib.hid hr5; clear hb5 hr5))
      all_goals
        have B03 := HB0.out.after z5
        have HZ5 := Lib.hid (Z.trans (z5.mono hz2))
        obtain ⟨b0, b1, b2, b3, b4, b5, b6, b7, b8, b9, b10, b11⟩ := HB5.out.cells
        obtain ⟨d0, d1, d2, d3, d4, d5, d6⟩ := B03.cells
        have fz := B03.free
        clear z4 hz5 z5 hb4
        go_wp2_with fail
        go_region
        all_goals
          go_wp2
          change bodyPost _ _ _ _ _ (pf w5 (w.heap.size + 1 + 1) f').drew
          refine bodyPost_ret (results_fr Tryz.results87 _ rfl ((B03.pf _).drew)) rfl ?_
          exact ⟨A5, c5, rfl, ((HR5.out.rn.pf hh2 _).drew).mono hz2, (below_pf HZ5.out hl2 _).drew⟩
    · go_region_held3 (fun w' => w'.cell? ⟨w.heap.size + 1, 1, none⟩ = some (.int .i64 1) ∧ Below w0.heap.size w0 w')
        (first | with_reducible exact hd_drew HK.out (fun _ h => h.2) (by assumption) | with_reducible exact hd_call HK.out (fun _ h => h.2) (by assumption) (by assumption) hn0 | with_reducible exact HK.out _ (by assumption))
        (first
        | (go_at_call 101; (refine (wdeeds_any _).mono ?_); rintro _ w4 ⟨rfl, hb4⟩; have z4 := keep_call hb4 z30.drew; have HB4 := Lib.hid (HB3.out.drew.after hb4); have HR4 := Lib.hid (HR3.out.drew.after hb4))
        | (go_at_call 113; (refine (CC.out w0.heap.size g A' c' _ HB4.out HR4.out z4.size).mono ?_); rintro _ w5 ⟨A5, c5, rfl, hb5, hr5, hz5⟩; have z5 : Below w0.heap.size w0 w5 := z4.trans (hz5.mono HLL); have HB5 := Lib.hid hb5; have HR5 := Lib.hid hr5; clear hb5 hr5))
      all_goals
        have B03 := HB0.out.after z5
        have HZ5 := Lib.hid (Z.trans (z5.mono hz2))
        obtain ⟨b0, b1, b2, b3, b4, b5, b6, b7, b8, b9, b10, b11⟩ := HB5.out.cells
        obtain ⟨d0, d1, d2, d3, d4, d5, d6⟩ := B03.cells
        have fz := B03.free
        clear z4 hz5 z5 hb4
        go_wp2_with fail
        go_region
        all_goals
          go_wp2
          change bodyPost _ _ _ _ _ (pf w5 (w.heap.size + 1 + 1) f').drew
          refine bodyPost_ret (results_fr Tryz.results87 _ rfl ((B03.pf _).drew)) rfl ?_
          exact ⟨A5, c5, rfl, ((HR5.out.rn.pf hh2 _).drew).mono hz2, (below_pf HZ5.out hl2 _).drew⟩
    · go_region_held3 (fun w' => w'.cell? ⟨w.heap.size + 1, 1, none⟩ = some (.int .i64 2) ∧ Below w0.heap.size w0 w')
        (first | with_reducible exact hd_drew HK.out (fun _ h => h.2) (by assumption) | with_reducible exact hd_call HK.out (fun _ h => h.2) (by assumption) (by assumption) hn0 | with_reducible exact HK.out _ (by assumption))
        (first
        | (go_at_call 101; (refine (wdeeds_any _).mono ?_); rintro _ w4 ⟨rfl, hb4⟩; have z4 := keep_call hb4 z30.drew; have HB4 := Lib.hid (HB3.out.drew.after hb4); have HR4 := Lib.hid (HR3.out.drew.after hb4))
        | (go_at_call 114; (refine (CC.out w0.heap.size g A' c' _ HB4.out HR4.out z4.size).mono ?_); rintro _ w5 ⟨A5, c5, rfl, hb5, hr5, hz5⟩; have z5 : Below w0.heap.size w0 w5 := z4.trans (hz5.mono HLL); have HB5 := Lib.hid hb5; have HR5 := Lib.hid hr5; clear hb5 hr5))
      all_goals
        have B03 := HB0.out.after z5
        have HZ5 := Lib.hid (Z.trans (z5.mono hz2))
        obtain ⟨b0, b1, b2, b3, b4, b5, b6, b7, b8, b9, b10, b11⟩ := HB5.out.cells
        obtain ⟨d0, d1, d2, d3, d4, d5, d6⟩ := B03.cells
        have fz := B03.free
        clear z4 hz5 z5 hb4
        go_wp2_with fail
        go_region
        all_goals
          go_wp2
          change bodyPost _ _ _ _ _ (pf w5 (w.heap.size + 1 + 1) f').drew
          refine bodyPost_ret (results_fr Tryz.results87 _ rfl ((B03.pf _).drew)) rfl ?_
          exact ⟨A5, c5, rfl, ((HR5.out.rn.pf hh2 _).drew).mono hz2, (below_pf HZ5.out hl2 _).drew⟩
    · go_region_held3 (fun w' => w'.cell? ⟨w.heap.size + 1, 1, none⟩ = some (.int .i64 3) ∧ Below w0.heap.size w0 w')
        (first | with_reducible exact hd_drew HK.out (fun _ h => h.2) (by assumption) | with_reducible exact hd_call HK.out (fun _ h => h.2) (by assumption) (by assumption) hn0 | with_reducible exact HK.out _ (by assumption))
        (first
        | (go_at_call 101; (refine (wdeeds_any _).mono ?_); rintro _ w4 ⟨rfl, hb4⟩; have z4 := keep_call hb4 z30.drew; have HB4 := Lib.hid (HB3.out.drew.after hb4); have HR4 := Lib.hid (HR3.out.drew.after hb4))
        | (go_at_call 115; (refine (CC.out w0.heap.size g A' c' _ HB4.out HR4.out z4.size).mono ?_); rintro _ w5 ⟨A5, c5, rfl, hb5, hr5, hz5⟩; have z5 : Below w0.heap.size w0 w5 := z4.trans (hz5.mono HLL); have HB5 := Lib.hid hb5; have HR5 := Lib.hid hr5; clear hb5 hr5))
      all_goals
        have B03 := HB0.out.after z5
        have HZ5 := Lib.hid (Z.trans (z5.mono hz2))
        obtain ⟨b0, b1, b2, b3, b4, b5, b6, b7, b8, b9, b10, b11⟩ := HB5.out.cells
        obtain ⟨d0, d1, d2, d3, d4, d5, d6⟩ := B03.cells
        have fz := B03.free
        clear z4 hz5 z5 hb4
        go_wp2_with fail
        go_region
        all_goals
          go_wp2
          change bodyPost _ _ _ _ _ (pf w5 (w.heap.size + 1 + 1) f').drew
          refine bodyPost_ret (results_fr Tryz.results87 _ rfl ((B03.pf _).drew)) rfl ?_
          exact ⟨A5, c5, rfl, ((HR5.out.rn.pf hh2 _).drew).mono hz2, (below_pf HZ5.out hl2 _).drew⟩
    · go_region_held3 (fun w' => w'.cell? ⟨w.heap.size + 1, 1, none⟩ = some (.int .i64 4) ∧ Below w0.heap.size w0 w')
        (first | with_reducible exact hd_drew HK.out (fun _ h => h.2) (by assumption) | with_reducible exact hd_call HK.out (fun _ h => h.2) (by assumption) (by assumption) hn0 | with_reducible exact HK.out _ (by assumption))
        (first
        | (go_at_call 101; (refine (wdeeds_any _).mono ?_); rintro _ w4 ⟨rfl, hb4⟩; have z4 := keep_call hb4 z30.drew; have HB4 := Lib.hid (HB3.out.drew.after hb4); have HR4 := Lib.hid (HR3.out.drew.after hb4))
        | (go_at_call 116; (refine (CC.out w0.heap.size g A' c' _ HB4.out HR4.out z4.size).mono ?_); rintro _ w5 ⟨A5, c5, rfl, hb5, hr5, hz5⟩; have z5 : Below w0.heap.size w0 w5 := z4.trans (hz5.mono HLL); have HB5 := Lib.hid hb5; have HR5 := Lib.hid hr5; clear hb5 hr5))
      all_goals
        have B03 := HB0.out.after z5
        have HZ5 := Lib.hid (Z.trans (z5.mono hz2))
        obtain ⟨b0, b1, b2, b3, b4, b5, b6, b7, b8, b9, b10, b11⟩ := HB5.out.cells
        obtain ⟨d0, d1, d2, d3, d4, d5, d6⟩ := B03.cells
        have fz := B03.free
        clear z4 hz5 z5 hb4
        go_wp2_with fail
        go_region
        all_goals
          go_wp2
          change bodyPost _ _ _ _ _ (pf w5 (w.heap.size + 1 + 1) f').drew
          refine bodyPost_ret (results_fr Tryz.results87 _ rfl ((B03.pf _).drew)) rfl ?_
          exact ⟨A5, c5, rfl, ((HR5.out.rn.pf hh2 _).drew).mono hz2, (below_pf HZ5.out hl2 _).drew⟩
theorem wstep_any (W D J S : Int) (A : Option Addr) (c : Nat) (l : List Int) (f : Fr) (w : World) (h : Rd w A l) (hs : l.length ≤ 500) (hf : UF f) :
    Calls Tryz.prog 87 #[cf W D J S, .slice A l.length c, fv f] w (RetS w (waitS W D J S l f).1 (waitS W D J S l f).2) := by
  cases hg : goes W D J S l f 5 5
  · rw [waitS_stay hg]
    exact wstep_leave W D J S A c l f w h hs hg
  · obtain ⟨hk, hr, ho, h0, h4⟩ := goes_iff.1 hg
    have hlong := okw_long hk
    have hp : f.pc = 0 ∨ f.pc = 1 ∨ f.pc = 2 ∨ f.pc = 3 ∨ f.pc = 4 := by omega
    unfold waitS
    rw [if_pos hg]
    rcases hp with hp | hp | hp | hp | hp
    · rw [if_pos hp]
      exact wstep_deed 112 W D J S A c l l f _ w h hs hg (.inl ⟨hp, rfl⟩) (fun lo g A c w hB hA _ => prepare_any lo g f W D J S A c l w hB hA hs)
    · rw [if_neg (by omega), if_pos hp]
      by_cases hd : at0 l 2 / 65536 = f.x / 65536
      · rw [if_pos hd]
        exact wstep_deed 113 W D J S A c l l f _ w h hs hg (.inr (.inl ⟨hp, rfl⟩)) (fun lo g A c w hB hA _ => lookAnew_any lo g f W D J S _ false _ A c l w hB hA rfl (by simpa using hd) rfl hs)
      · rw [if_neg hd]
        exact wstep_deed 113 W D J S A c l l f _ w h hs hg (.inr (.inl ⟨hp, rfl⟩)) (fun lo g A c w hB hA _ => lookAnew_any lo g f W D J S _ true _ A c l w hB hA rfl (by simpa using hd) rfl hs)
    · rw [if_neg (by omega), if_neg (by omega), if_pos hp]
      have e5 : isAt l 2 f.y = decide (at0 l 2 = f.y) := isAt_at0 (by omega) (by omega)
      by_cases hd : at0 l 2 = f.y
      · rw [if_pos hd]
        exact wstep_deed 114 W D J S A c l _ f _ w h hs hg (.inr (.inr (.inl ⟨hp, rfl⟩))) (fun lo g A c w hB hA hlo => setBit_any lo g f W D J S _ true _ A c l w hB hA hlo hf.2.2 (by rw [e5]; simpa using hd) (by rw [e5, if_pos (by simpa using hd)]) rfl hs)
      · rw [if_neg hd]
        exact wstep_deed 114 W D J S A c l _ f _ w h hs hg (.inr (.inr (.inl ⟨hp, rfl⟩))) (fun lo g A c w hB hA hlo => setBit_any lo g f W D J S _ false _ A c l w hB hA hlo hf.2.2 (by rw [e5]; simpa using hd) (by rw [e5, if_neg (by simpa using hd)]) rfl hs)
    · rw [if_neg (by omega), if_neg (by omega), if_neg (by omega), if_pos hp]
      by_cases hd : at0 l (pkI D J f.who) = 0
      · rw [if_pos hd]
        exact wstep_deed 115 W D J S A c l l f _ w h hs hg (.inr (.inr (.inr (.inl ⟨hp, rfl⟩)))) (fun lo g A c w hB hA _ => wpark_any lo g f W D J S 0 false _ A c l w hB hA (by rw [pkI_ow hk]; exact hd) rfl rfl hs)
      · rw [if_neg hd]
        exact wstep_deed 115 W D J S A c l l f _ w h hs hg (.inr (.inr (.inr (.inl ⟨hp, rfl⟩)))) (fun lo g A c w hB hA _ => wpark_any lo g f W D J S (at0 l (pkI D J f.who)) true _ A c l w hB hA (by rw [pkI_ow hk]) (by simpa using hd) rfl hs)
    · rw [if_neg (by omega), if_neg (by omega), if_neg (by omega), if_neg (by omega)]
      exact wstep_deed 116 W D J S A c l _ f _ w h hs hg (.inr (.inr (.inr (.inr ⟨hp, rfl⟩)))) (fun lo g A c w hB hA hlo => Lw.of (unpark_any lo g f W D J S A c l w hB hA hlo hs) rfl (by rw [pkI_ow hk]))
/-- A step, where the cells are as many as before. -/
theorem wait_n {W D J S : Int} {A : Option Addr} {n c : Nat} {l : List Int} {f : Fr} {w : World} (h : Rd w A l) (hn : l.length = n) (hs : n ≤ 500) (hf : UF f) {l' : List Int} {f' : Fr} (e : waitS W D J S l f = (l', f')) :
    Calls Tryz.prog 87 #[cf W D J S, .slice A n c, fv f] w fun e w' => ∃ A' c', e = .returned (.tuple #[.slice A' n c', fv f']) ∧ Rn w.heap.size w' A' l' ∧ Below w.heap.size w w' := by
  subst hn
  have h2 := wstep_any W D J S A c l f w h hs hf
  have hl := waitS_len W D J S l f
  rw [e] at h2 hl
  refine h2.mono ?_
  rintro _ w' ⟨A', c', rfl, h3, h4⟩
  exact ⟨A', c', by rw [show l'.length = l.length from hl], h3, h4⟩
end Go.Proofs.YtlpkccpijloidaaGreat
