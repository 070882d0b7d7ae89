/- Merged: PuH, PuI, PuJ, PuK. -/
import Derived.Test.YtpeaahihjeplmaaPuG
import Derived.Test.YtpeaahihjeplmaaPuEF
import Derived.Deep.CutRange
import Derived.Deep.DeepCutAuto
import Derived.IntWalk
import Derived.Test.YtpeaahihjeplmaaLaC
import Derived.Lib.SmallJoins
namespace Go.Proofs.Ytpeaahihjeplmaa
open Go.RowKit Go.Deep
set_option maxRecDepth 100000 in
theorem index_fn0 (a b c d : Value) (w : World) : (Instr.index 79 (.agg #[a, b, c, d]) (.int .i64 0)).run Try.prog w = .ok a w := by kernel_rfl
set_option maxRecDepth 100000 in
theorem index_fn1 (a b c d : Value) (w : World) : (Instr.index 79 (.agg #[a, b, c, d]) (.int .i64 1)).run Try.prog w = .ok b w := by kernel_rfl
set_option maxRecDepth 100000 in
theorem index_fn2 (a b c d : Value) (w : World) : (Instr.index 79 (.agg #[a, b, c, d]) (.int .i64 2)).run Try.prog w = .ok c w := by kernel_rfl
set_option maxRecDepth 100000 in
theorem index_fn3 (a b c d : Value) (w : World) : (Instr.index 79 (.agg #[a, b, c, d]) (.int .i64 3)).run Try.prog w = .ok d w := by kernel_rfl
attribute [local go_sem] index_fn0 index_fn1 index_fn2 index_fn3
set_option maxRecDepth 100000 in
set_option maxHeartbeats 4000000 in
theorem step_deed (F : FuncId) (W D J S : Int) (A : Option Addr) (c : Nat) (l l' : List Int) (f f' : Fr) (w : World) (h : Rd w A l) (hs : l.length ≤ 500) (hg : goes W D J S l f 0 4 = true)
    (hF : f.pc = 0 ∧ F = 84 ∨ f.pc = 1 ∧ F = 85 ∨ f.pc = 2 ∧ F = 86 ∨ f.pc = 3 ∧ F = 87)
    (C : ∀ (lo g : Nat) (A : Option Addr) (c : Nat) (w : World), Bp w g f W D J S (.slice A l.length c) → Rx lo g w A l → lo ≤ w.heap.size → Calls Try.prog F #[.pointer (some ⟨g, 0, none⟩)] w (Lv lo w g f' W D J S l')) :
    Calls Try.prog 25 #[cf W D J S, .slice A l.length c, fv f] w (RetS w l' f') := by
  obtain ⟨BX, BF, B0, Z, hz⟩ := boxes3 w W D J S f
  have H := Lib.hid (h.below Z); clear h
  have HS := Lib.hid hs; clear hs
  have HG := Lib.hid hg; clear hg
  have CC := Lib.hid C; clear C
  obtain ⟨o, p, q, v, x, y, s⟩ := f
  have HF := Lib.hid hF; clear hF
  go_enter Try.func25, Try.ntmps25
  go_upto_region 1 with fail
  change Code.wp _ _ _ _ (bx3 w W D J S ⟨o, p, q, v, x, y, s⟩)
  generalize bx3 w W D J S ⟨o, p, q, v, x, y, s⟩ = w0 at BX BF B0 Z hz H ⊢
  go_cut [8] from 8 to 13 (fun t wr => ∃ (g : Nat) (A' : Option Addr) (c' : Nat), t = .pointer (some ⟨g, 0, none⟩) ∧ Hid (Bp wr g ⟨o, p, q, v, x, y, s⟩ W D J S (.slice A' l.length c')) ∧ Hid (Rx w0.heap.size g wr A' l) ∧ Hid (Below w0.heap.size w0 wr) ∧ Hid (w0.heap.size ≤ g))
  case first =>
    have HZ := Lib.hid hz
    clear hz
    have HK := Lib.hid (show ∀ x', Below w0.heap.size w0 x' → (fun w' => w'.cell? ⟨w.heap.size, 0, none⟩ = some (.int .i64 W) ∧ w'.cell? ⟨w.heap.size, 1, none⟩ = some (.int .i64 D) ∧ w'.cell? ⟨w.heap.size, 2, none⟩ = some (.int .i64 J) ∧ w'.cell? ⟨w.heap.size, 3, none⟩ = some (.int .i64 S) ∧ w'.cell? ⟨w.heap.size + 1, 0, none⟩ = some (.int .i64 o) ∧ w'.cell? ⟨w.heap.size + 1, 1, none⟩ = some (.int .i64 p) ∧ w'.cell? ⟨w.heap.size + 1, 2, none⟩ = some (.int .i64 q) ∧ w'.cell? ⟨w.heap.size + 1, 3, none⟩ = some (.int .u64 v) ∧ w'.cell? ⟨w.heap.size + 1, 4, none⟩ = some (.int .u64 x) ∧ w'.cell? ⟨w.heap.size + 1, 5, none⟩ = some (.int .u64 y) ∧ w'.cell? ⟨w.heap.size + 1, 6, none⟩ = some (.int .i64 s) ∧ Below w0.heap.size w0 w') x' from fun x' hx => by
      obtain ⟨_, e0, e1, e2, e3⟩ := BX.below hx
      obtain ⟨f0, f1, f2, f3, f4, f5, f6⟩ := (BF.after hx).cells
      exact ⟨e0, e1, e2, e3, f0, f1, f2, f3, f4, f5, f6, hx⟩)
    have hHeld0 := HK.out _ (Below.refl _ _)
    have hn0 : w0.heap.size ≤ w0.heap.size := Nat.le_refl _
    have zr := (Below.refl w0.heap.size w0).drew
    go_region_held3 (fun w' => w'.cell? ⟨w.heap.size, 0, none⟩ = some (.int .i64 W) ∧ w'.cell? ⟨w.heap.size, 1, none⟩ = some (.int .i64 D) ∧ w'.cell? ⟨w.heap.size, 2, none⟩ = some (.int .i64 J) ∧ w'.cell? ⟨w.heap.size, 3, none⟩ = some (.int .i64 S) ∧ w'.cell? ⟨w.heap.size + 1, 0, none⟩ = some (.int .i64 o) ∧ w'.cell? ⟨w.heap.size + 1, 1, none⟩ = some (.int .i64 p) ∧ w'.cell? ⟨w.heap.size + 1, 2, none⟩ = some (.int .i64 q) ∧ w'.cell? ⟨w.heap.size + 1, 3, none⟩ = some (.int .u64 v) ∧ w'.cell? ⟨w.heap.size + 1, 4, none⟩ = some (.int .u64 x) ∧ w'.cell? ⟨w.heap.size + 1, 5, none⟩ = some (.int .u64 y) ∧ w'.cell? ⟨w.heap.size + 1, 6, none⟩ = some (.int .i64 s) ∧ Below w0.heap.size w0 w')
      (first | with_reducible exact hd_drew HK.out (fun _ h => h.2.2.2.2.2.2.2.2.2.2.2) (by assumption) | with_reducible exact hd_alloc HK.out (fun _ h => h.2.2.2.2.2.2.2.2.2.2.2) hn0 _ (by assumption) | with_reducible exact hd_alloc_drew HK.out (fun _ h => h.2.2.2.2.2.2.2.2.2.2.2) hn0 _ (by assumption) | with_reducible exact hd_call HK.out (fun _ h => h.2.2.2.2.2.2.2.2.2.2.2) (by assumption) (by assumption) hn0 | with_reducible exact HK.out _ (z1.alloc z1.size _) | with_reducible exact hd_set12 HK.out (Nat.le_refl _) _ _ _ _ _ _ _ _ _ _ _ _ z1)
      (first
      | (go_at_call 28; (refine (clone_any A l.length c l w0.drew (H.out.below zr) rfl HS.out).mono ?_); rintro _ w1 ⟨A1, c1, rfl, hr1, hb1⟩; have HR1 := Lib.hid hr1; have z1 : Below w0.heap.size w0 w1 := keep_call hb1 zr; clear hr1)
      | (go_at_call 28; (refine (clone_any A l.length c l _ (H.out.below (zr.alloc (Nat.le_refl _) _)) rfl HS.out).mono ?_); rintro _ w1 ⟨A1, c1, rfl, hr1, hb1⟩; have HR1 := Lib.hid hr1; have z1 : Below w0.heap.size w0 w1 := (zr.alloc (Nat.le_refl _) _).trans (hb1.mono (by simp)); have e1 := (Bp.new w0).drew.after hb1; have E1 := Lib.hid e1; obtain ⟨d0, d1, d2, d3, d4, d5, d6, d7, d8, d9, d10, d11⟩ := e1.cells; have fz := e1.free; clear hr1 e1))
    · go_wp2_with fail
      go_meet
      exact ⟨w1.heap.size, A1, c1, rfl, Lib.hid (heap_alloc_new _ _), Lib.hid ((HR1.out.rx (Nat.le_refl _) (.inr (Nat.le_refl _))).after (bel_alloc w1 _)), Lib.hid (z1.alloc z1.size _), Lib.hid z1.size⟩
    · go_wp2_with fail
      go_meet
      change ∃ (g : Nat) (A' : Option Addr) (c' : Nat), Value.pointer (some ⟨w0.heap.size, 0, none⟩) = .pointer (some ⟨g, 0, none⟩) ∧ Hid (Bp (pp w1 w0.heap.size ⟨o, p, q, v, x, y, s⟩ W D J S (.slice A1 l.length c1)) g ⟨o, p, q, v, x, y, s⟩ W D J S (.slice A' l.length c')) ∧ Hid (Rx w0.heap.size g (pp w1 w0.heap.size ⟨o, p, q, v, x, y, s⟩ W D J S (.slice A1 l.length c1)) A' l) ∧ Hid (Below w0.heap.size w0 (pp w1 w0.heap.size ⟨o, p, q, v, x, y, s⟩ W D J S (.slice A1 l.length c1))) ∧ Hid (w0.heap.size ≤ g)
      exact ⟨w0.heap.size, A1, c1, rfl, Lib.hid (E1.out.pp _ _ _ _ _ _), Lib.hid ((HR1.out.rx (by simp) (.inl (by simp))).pp _ _ _ _ _ _), Lib.hid (below_pp z1 (Nat.le_refl _) _ _ _ _ _ _), Lib.hid (Nat.le_refl _)⟩
  case rest =>
    obtain ⟨g, A', c', rfl, HB, HR, HZ, HL⟩ := hcut
    obtain ⟨_, b0, b1, b2, b3⟩ := BX.below HZ.out
    obtain ⟨a0, a1, a2, a3, a4, a5, a6⟩ := (BF.after HZ.out).cells
    go_wp2_with fail
    refine (Tells.of (goes_any W D J S 0 4 A l.length c l ⟨o, p, q, v, x, y, s⟩ _ rfl) (v' := .bool true) (by rw [HG.out])).mono ?_
    rintro _ w3 ⟨rfl, z3⟩
    have HB3 := Lib.hid (HB.out.after z3)
    have HR3 := Lib.hid (HR.out.after z3)
    have z30 := keep_call z3 HZ.out
    have B03 := B0.after z30
    obtain ⟨b0, b1, b2, b3, b4, b5, b6, b7, b8, b9, b10, b11⟩ := HB3.out.cells
    obtain ⟨d0, d1, d2, d3, d4, d5, d6⟩ := B03.cells
    have fz := B03.free
    go_wp2_with fail
    have hl2 : w.heap.size ≤ w.heap.size + 1 + 1 := by omega
    have hh2 : w.heap.size + 1 + 1 < w0.heap.size := by omega
    have hz2 : w.heap.size ≤ w0.heap.size := by omega
    have HL2 := Lib.hid (Nat.le_trans HL.out (Nat.le_of_lt HB3.out.lt))
    have HLL := HL.out
    have hn0 : w0.heap.size ≤ w0.heap.size := Nat.le_refl _
    have hHeld0 : (fun w' => w'.cell? ⟨w.heap.size + 1, 1, none⟩ = some (.int .i64 p) ∧ Below w0.heap.size w0 w') w3 := ⟨((BF.after z30).cells).2.1, z30⟩
    have HK := Lib.hid (show ∀ x', Below w0.heap.size w0 x' → (fun w' => w'.cell? ⟨w.heap.size + 1, 1, none⟩ = some (.int .i64 p) ∧ Below w0.heap.size w0 w') x' from fun x' hx => ⟨((BF.after hx).cells).2.1, hx⟩)
    have HB0 := Lib.hid B0
    clear hz z3 HZ HL B03 a0 a1 a2 a3 a4 a5 a6 B0
    rcases HF.out with ⟨e, rfl⟩ | ⟨e, rfl⟩ | ⟨e, rfl⟩ | ⟨e, rfl⟩
    all_goals
      try simp only at e
      subst e
      clear HF
    · go_region_held3 (fun w' => w'.cell? ⟨w.heap.size + 1, 1, none⟩ = some (.int .i64 0) ∧ Below w0.heap.size w0 w')
        (first | with_reducible exact hd_drew HK.out (fun _ h => h.2) (by assumption) | with_reducible exact hd_call HK.out (fun _ h => h.2) (by assumption) (by assumption) hn0 | with_reducible exact HK.out _ (by assumption))
        (first
        | (go_at_call 56; (refine (psteps_any _ _).mono ?_); rintro _ w4 ⟨rfl, hb4⟩; have z4 := keep_call hb4 z30.drew; have HB4 := Lib.hid (HB3.out.drew.after hb4); have HR4 := Lib.hid (HR3.out.drew.after hb4))
        | (go_at_call 84; (refine (CC.out w0.heap.size g A' c' _ HB4.out HR4.out z4.size).mono ?_); rintro _ w5 ⟨A5, c5, rfl, hb5, hr5, hz5⟩; have z5 : Below w0.heap.size w0 w5 := z4.trans (hz5.mono HLL); have HB5 := Lib.hid hb5; have HR5 := Lib.hid hr5; clear hb5 hr5))
      all_goals
        have B03 := HB0.out.after z5
        have HZ5 := Lib.hid (Z.trans (z5.mono hz2))
        obtain ⟨b0, b1, b2, b3, b4, b5, b6, b7, b8, b9, b10, b11⟩ := HB5.out.cells
        obtain ⟨d0, d1, d2, d3, d4, d5, d6⟩ := B03.cells
        have fz := B03.free
        clear z4 hz5 z5 hb4
        go_wp2_with fail
        go_region
        all_goals
          go_wp2
          change bodyPost _ _ _ _ _ (pf w5 (w.heap.size + 1 + 1) f').drew
          refine bodyPost_ret (results_fr Try.results25 _ rfl ((B03.pf _).drew)) rfl ?_
          exact ⟨A5, c5, rfl, ((HR5.out.rn.pf hh2 _).drew).mono hz2, (below_pf HZ5.out hl2 _).drew⟩
    · go_region_held3 (fun w' => w'.cell? ⟨w.heap.size + 1, 1, none⟩ = some (.int .i64 1) ∧ Below w0.heap.size w0 w')
        (first | with_reducible exact hd_drew HK.out (fun _ h => h.2) (by assumption) | with_reducible exact hd_call HK.out (fun _ h => h.2) (by assumption) (by assumption) hn0 | with_reducible exact HK.out _ (by assumption))
        (first
        | (go_at_call 56; (refine (psteps_any _ _).mono ?_); rintro _ w4 ⟨rfl, hb4⟩; have z4 := keep_call hb4 z30.drew; have HB4 := Lib.hid (HB3.out.drew.after hb4); have HR4 := Lib.hid (HR3.out.drew.after hb4))
        | (go_at_call 85; (refine (CC.out w0.heap.size g A' c' _ HB4.out HR4.out z4.size).mono ?_); rintro _ w5 ⟨A5, c5, rfl, hb5, hr5, hz5⟩; have z5 : Below w0.heap.size w0 w5 := z4.trans (hz5.mono HLL); have HB5 := Lib.hid hb5; have HR5 := Lib.hid hr5; clear hb5 hr5))
      all_goals
        have B03 := HB0.out.after z5
        have HZ5 := Lib.hid (Z.trans (z5.mono hz2))
        obtain ⟨b0, b1, b2, b3, b4, b5, b6, b7, b8, b9, b10, b11⟩ := HB5.out.cells
        obtain ⟨d0, d1, d2, d3, d4, d5, d6⟩ := B03.cells
        have fz := B03.free
        clear z4 hz5 z5 hb4
        go_wp2_with fail
        go_region
        all_goals
          go_wp2
          change bodyPost _ _ _ _ _ (pf w5 (w.heap.size + 1 + 1) f').drew
          refine bodyPost_ret (results_fr Try.results25 _ rfl ((B03.pf _).drew)) rfl ?_
          exact ⟨A5, c5, rfl, ((HR5.out.rn.pf hh2 _).drew).mono hz2, (below_pf HZ5.out hl2 _).drew⟩
    · go_region_held3 (fun w' => w'.cell? ⟨w.heap.size + 1, 1, none⟩ = some (.int .i64 2) ∧ Below w0.heap.size w0 w')
        (first | with_reducible exact hd_drew HK.out (fun _ h => h.2) (by assumption) | with_reducible exact hd_call HK.out (fun _ h => h.2) (by assumption) (by assumption) hn0 | with_reducible exact HK.out _ (by assumption))
        (first
        | (go_at_call 56; (refine (psteps_any _ _).mono ?_); rintro _ w4 ⟨rfl, hb4⟩; have z4 := keep_call hb4 z30.drew; have HB4 := Lib.hid (HB3.out.drew.after hb4); have HR4 := Lib.hid (HR3.out.drew.after hb4))
        | (go_at_call 86; (refine (CC.out w0.heap.size g A' c' _ HB4.out HR4.out z4.size).mono ?_); rintro _ w5 ⟨A5, c5, rfl, hb5, hr5, hz5⟩; have z5 : Below w0.heap.size w0 w5 := z4.trans (hz5.mono HLL); have HB5 := Lib.hid hb5; have HR5 := Lib.hid hr5; clear hb5 hr5))
      all_goals
        have B03 := HB0.out.after z5
        have HZ5 := Lib.hid (Z.trans (z5.mono hz2))
        obtain ⟨b0, b1, b2, b3, b4, b5, b6, b7, b8, b9, b10, b11⟩ := HB5.out.cells
        obtain ⟨d0, d1, d2, d3, d4, d5, d6⟩ := B03.cells
        have fz := B03.free
        clear z4 hz5 z5 hb4
        go_wp2_with fail
        go_region
        all_goals
          go_wp2
          change bodyPost _ _ _ _ _ (pf w5 (w.heap.size + 1 + 1) f').drew
          refine bodyPost_ret (results_fr Try.results25 _ rfl ((B03.pf _).drew)) rfl ?_
          exact ⟨A5, c5, rfl, ((HR5.out.rn.pf hh2 _).drew).mono hz2, (below_pf HZ5.out hl2 _).drew⟩
    · go_region_held3 (fun w' => w'.cell? ⟨w.heap.size + 1, 1, none⟩ = some (.int .i64 3) ∧ Below w0.heap.size w0 w')
        (first | with_reducible exact hd_drew HK.out (fun _ h => h.2) (by assumption) | with_reducible exact hd_call HK.out (fun _ h => h.2) (by assumption) (by assumption) hn0 | with_reducible exact HK.out _ (by assumption))
        (first
        | (go_at_call 56; (refine (psteps_any _ _).mono ?_); rintro _ w4 ⟨rfl, hb4⟩; have z4 := keep_call hb4 z30.drew; have HB4 := Lib.hid (HB3.out.drew.after hb4); have HR4 := Lib.hid (HR3.out.drew.after hb4))
        | (go_at_call 87; (refine (CC.out w0.heap.size g A' c' _ HB4.out HR4.out z4.size).mono ?_); rintro _ w5 ⟨A5, c5, rfl, hb5, hr5, hz5⟩; have z5 : Below w0.heap.size w0 w5 := z4.trans (hz5.mono HLL); have HB5 := Lib.hid hb5; have HR5 := Lib.hid hr5; clear hb5 hr5))
      all_goals
        have B03 := HB0.out.after z5
        have HZ5 := Lib.hid (Z.trans (z5.mono hz2))
        obtain ⟨b0, b1, b2, b3, b4, b5, b6, b7, b8, b9, b10, b11⟩ := HB5.out.cells
        obtain ⟨d0, d1, d2, d3, d4, d5, d6⟩ := B03.cells
        have fz := B03.free
        clear z4 hz5 z5 hb4
        go_wp2_with fail
        go_region
        all_goals
          go_wp2
          change bodyPost _ _ _ _ _ (pf w5 (w.heap.size + 1 + 1) f').drew
          refine bodyPost_ret (results_fr Try.results25 _ rfl ((B03.pf _).drew)) rfl ?_
          exact ⟨A5, c5, rfl, ((HR5.out.rn.pf hh2 _).drew).mono hz2, (below_pf HZ5.out hl2 _).drew⟩
end Go.Proofs.Ytpeaahihjeplmaa
namespace Go.Proofs.Ytpeaahihjeplmaa
open Go.RowKit Go.Deep
set_option maxRecDepth 100000 in
theorem ow_ok {W D J S : Int} {m : List Int} {w : Int} (h : okw W D J S m w = true) (k : Int) : ow W D J S w k = bg D J w + k := by
  obtain ⟨a, _, c, d⟩ := okw_iff.1 h
  unfold ow
  rw [a, wi_true.2 ⟨c, by omega⟩]; rfl
set_option maxRecDepth 100000 in
theorem sl_ok {W D J S : Int} {m : List Int} {w : Int} (h : okw W D J S m w = true) (x : Int) : sl W D J S w x = sI D J w x := by
  obtain ⟨a, _, c, d⟩ := okw_iff.1 h
  unfold sl sI
  rw [a, wi_true.2 ⟨c, by omega⟩]; rfl
set_option maxRecDepth 100000 in
theorem RetS.of {w : World} {l l' : List Int} {f f' : Fr} {P : Program} {F : FuncId} {args : Array Value} (h : Calls P F args w (RetS w l f)) (e : (l, f) = (l', f')) : Calls P F args w (RetS w l' f') := by
  injection e with e1 e2
  rw [← e1, ← e2]; exact h
set_option maxRecDepth 100000 in
theorem Lv.of {lo : Nat} {w : World} {g : Nat} {f f' : Fr} {W D J S : Int} {l l' : List Int} {P : Program} {F : FuncId} {args : Array Value} (h : Calls P F args w (Lv lo w g f W D J S l)) (e1 : f = f') (e2 : l = l') : Calls P F args w (Lv lo w g f' W D J S l') := by
  rw [← e1, ← e2]; exact h
set_option maxRecDepth 100000 in
theorem step_any (W D J S : Int) (A : Option Addr) (c : Nat) (l : List Int) (f : Fr) (w : World) (h : Rd w A l) (hs : l.length ≤ 500) (hf : UF f) :
    Calls Try.prog 25 #[cf W D J S, .slice A l.length c, fv f] w (RetS w (pushS W D J S l f).1 (pushS W D J S l f).2) := by
  cases hg : goes W D J S l f 0 4
  · have e : pushS W D J S l f = (l, f) := by unfold pushS; rw [hg]; rfl
    rw [e]
    exact step_leave W D J S A c l f w h hs hg
  · obtain ⟨hk, hr, ho, h0, h4⟩ := goes_iff.1 hg
    obtain ⟨hW, hD, hJ, hS⟩ := may_lim (okw_iff.1 hk).1
    have hp : f.pc = 0 ∨ f.pc = 1 ∨ f.pc = 2 ∨ f.pc = 3 := by omega
    unfold pushS
    rw [if_pos hg]
    rcases hp with hp | hp | hp | hp
    · rw [if_pos hp]
      exact step_deed 84 W D J S A c l l f _ w h hs hg (.inl ⟨hp, rfl⟩) (fun lo g A c w hB hA _ => Lv.of (loadBottom_any lo g f W D J S A c l w hB hA hs) (by rw [ow_ok hk]) rfl)
    · rw [if_neg (by omega), if_pos hp]
      by_cases hd : D ≤ (f.x - at0 l (bg D J f.who)) % 18446744073709551616
      · rw [if_pos hd]
        exact step_deed 85 W D J S A c l l f _ w h hs hg (.inr (.inl ⟨hp, rfl⟩)) (fun lo g A c w hB hA _ => loadTop_any lo g f W D J S _ true A c l w hB hA hs hD (by rw [ow_ok hk, Int.add_zero]) (decide_eq_true hd) _ rfl)
      · rw [if_neg hd]
        exact step_deed 85 W D J S A c l l f _ w h hs hg (.inr (.inl ⟨hp, rfl⟩)) (fun lo g A c w hB hA _ => loadTop_any lo g f W D J S _ false A c l w hB hA hs hD (by rw [ow_ok hk, Int.add_zero]) (decide_eq_false hd) _ rfl)
    · rw [if_neg (by omega), if_neg (by omega), if_pos hp]
      exact step_deed 86 W D J S A c l _ f _ w h hs hg (.inr (.inr (.inl ⟨hp, rfl⟩))) (fun lo g A c w hB hA hlo => Lv.of (storeVal_any lo g f W D J S A c l w hB hA hlo hs hf.2.1) rfl (by rw [sl_ok hk]))
    · rw [if_neg (by omega), if_neg (by omega), if_neg (by omega)]
      exact step_deed 87 W D J S A c l _ f _ w h hs hg (.inr (.inr (.inr ⟨hp, rfl⟩))) (fun lo g A c w hB hA hlo => Lv.of (storeBottom_any lo g f W D J S A c l w hB hA hlo hs) rfl (by rw [ow_ok hk]))
end Go.Proofs.Ytpeaahihjeplmaa
namespace Go.Proofs.Ytpeaahihjeplmaa
open Go.RowKit Go.Deep
/-- What a call that tells a list leaves: the list, in memory that may be read, and whether there is one. -/
def RetL (w : World) (o : Option (List Int)) (e : Ending) (w' : World) : Prop :=
  ∃ A c, e = .returned (.tuple #[.slice A (o.getD []).length c, .bool o.isSome]) ∧ (o.getD []).length ≤ c ∧ Rd w' A (o.getD []) ∧ Below w.heap.size w w'
set_option maxRecDepth 100000 in
theorem Own.after {w w' : World} {base : Nat} {A : Option Addr} {n c : Nat} {l : List Int} (h : Own w base A n c l) (hb : Below w.heap.size w w') : Own w' base A n c l := by
  refine ⟨h.1, ?_⟩
  rcases h.2 with h2 | ⟨g, cap, cur, hv, hb0, hg, hr⟩
  · exact .inl h2
  · exact .inr ⟨g, cap, cur, hv, hb0, (hb.block g (Array.getElem?_eq_some_iff.1 hg).1).trans hg, hr⟩
set_option maxRecDepth 100000 in
theorem Own.nil (w : World) (base : Nat) : Own w base none 0 0 [] := World.ownsRow_nil _ _ _ _
set_option maxRecDepth 100000 in
theorem Own.cap {w : World} {base : Nat} {A : Option Addr} {n c : Nat} {l : List Int} (h : Own w base A n c l) : n ≤ c := by
  rcases h.2 with ⟨hv, hx⟩ | ⟨g, cap, cur, hv, hb, hg, hn, _⟩
  · omega
  · injection hv with _ _ hc
    rw [hc]; exact hn
/-- The first numbers of a deque, from T on. -/
def lN (D J : Int) (m : List Int) (x T : Int) (j : Nat) : List Int := (List.range j).map fun i : Nat => at0 m (sI D J x (T + i))
set_option maxRecDepth 100000 in
theorem lN_len (D J : Int) (m : List Int) (x T : Int) (j : Nat) : (lN D J m x T j).length = j := by simp [lN]
set_option maxRecDepth 100000 in
theorem lN_succ (D J : Int) (m : List Int) (x T : Int) (j : Nat) : lN D J m x T (j + 1) = lN D J m x T j ++ [at0 m (sI D J x (T + j))] := by simp [lN, List.range_succ]
set_option maxRecDepth 100000 in
theorem lst_yes {W D J S : Int} {m : List Int} {x : Int} (hk : okw W D J S m x = true) {j : Nat} (hf : far (at0 m (bg D J x + 1)) (at0 m (bg D J x)) = j) (hj : (j : Int) ≤ D) : lst W D J S m x = some (lN D J m x (at0 m (bg D J x)) j) := by
  unfold lst lN
  rw [if_pos ⟨hk, by rw [hf]; omega, by rw [hf]; exact hj⟩, hf]; rfl
set_option maxRecDepth 100000 in
theorem lst_no {W D J S : Int} {m : List Int} {x : Int} (h : okw W D J S m x = true → far (at0 m (bg D J x + 1)) (at0 m (bg D J x)) < 0 ∨ D < far (at0 m (bg D J x + 1)) (at0 m (bg D J x))) : lst W D J S m x = none := by
  unfold lst
  rw [if_neg]
  rintro ⟨h1, h2, h3⟩
  have := h h1
  omega
set_option maxRecDepth 100000 in
theorem list_there (W D J S x : Int) (A : Option Addr) (n c : Nat) (m : List Int) (w : World) (hn : m.length = n) (hk : okw W D J S m x = false) :
    Calls Try.prog 21 #[cf W D J S, .slice A n c, .int .i64 x] w (RetL w none) := by
  have HK := Lib.hid hk
  clear hk
  go_enter Try.func21, Try.ntmps21
  go_wp2_with fail
  refine (Tells.of (there_any W D J S x A n c m _ hn) (v' := .bool false) (by rw [HK.out])).mono ?_
  rintro _ w1 ⟨rfl, z1⟩
  have HZ := Lib.hid ((box_below w _).trans (z1.mono (by simp)))
  clear z1
  go_wp2
  refine bodyPost_ret (by simp [results, Try.results21, go_sem]; try rfl) rfl ?_
  exact ⟨none, 0, rfl, Nat.le_refl _, Rd.nil _ _, HZ.out⟩
set_option maxRecDepth 100000 in
set_option maxHeartbeats 2000000 in
theorem list_here (W D J S x T B : Int) (A : Option Addr) (n c : Nat) (m : List Int) (w : World) (h : Rd w A m) (hn : m.length = n) (hk : okw W D J S m x = true) (hT : at0 m (bg D J x) = T) (hB : at0 m (bg D J x + 1) = B)
    (o : Option (List Int)) (ho : (o = none ∧ (far B T < 0 ∨ 0 ≤ far B T ∧ D < far B T)) ∨ ∃ j : Nat, far B T = j ∧ (j : Int) ≤ D ∧ o = some (lN D J m x T j)) :
    Calls Try.prog 21 #[cf W D J S, .slice A n c, .int .i64 x] w (RetL w o) := by
  obtain ⟨hm, hlen, hx0, hx1⟩ := okw_iff.1 hk
  obtain ⟨hW, hD, hJ, hS⟩ := may_lim hm
  have hs : n ≤ 500 := by
    have := (bg_lim hD hJ (x := W) (by omega)).2
    omega
  have H := Lib.hid h
  have HN := Lib.hid hn
  have HK := Lib.hid hk
  have HT := Lib.hid (show at0 m (ow W D J S x 0) = T by rw [ow_ok hk, Int.add_zero, hT])
  have HB := Lib.hid (show at0 m (ow W D J S x 1) = B by rw [ow_ok hk, hB])
  have HO := Lib.hid ho
  have HD := Lib.hid hD
  clear h hn hk hT hB ho hm hlen hW hD hJ hS
  go_enter Try.func21, Try.ntmps21
  go_wp2_with fail
  refine (Tells.of (there_any W D J S x A n c m _ HN.out) (v' := .bool true) (by rw [HK.out])).mono ?_
  rintro _ w1 ⟨rfl, z1⟩
  have HZ := Lib.hid ((box_below w _).trans (z1.mono (by simp)))
  have BX := Lib.hid ((Bx.mk w W D J S 23).below z1)
  have HW := Lib.hid BX.out.1
  clear z1
  go_upto_region 3 with fail
  go_cut [8, 9] from 8 to 27 (fun t b wr => t = .int .u64 T ∧ b = .int .u64 B ∧ Hid (Below w1.heap.size w1 wr))
  case first =>
    have HKK := Lib.hid (show ∀ x', Below w1.heap.size w1 x' → (fun w' => w'.cell? ⟨w.heap.size, 0, none⟩ = some (.int .i64 W) ∧ w'.cell? ⟨w.heap.size, 1, none⟩ = some (.int .i64 D) ∧ w'.cell? ⟨w.heap.size, 2, none⟩ = some (.int .i64 J) ∧ w'.cell? ⟨w.heap.size, 3, none⟩ = some (.int .i64 S) ∧ Below w1.heap.size w1 w') x' from fun x' hx => ⟨(BX.out.below hx).2.1, (BX.out.below hx).2.2.1, (BX.out.below hx).2.2.2.1, (BX.out.below hx).2.2.2.2, hx⟩)
    have HR := Lib.hid (show ∀ x', (fun w' => w'.cell? ⟨w.heap.size, 0, none⟩ = some (.int .i64 W) ∧ w'.cell? ⟨w.heap.size, 1, none⟩ = some (.int .i64 D) ∧ w'.cell? ⟨w.heap.size, 2, none⟩ = some (.int .i64 J) ∧ w'.cell? ⟨w.heap.size, 3, none⟩ = some (.int .i64 S) ∧ Below w1.heap.size w1 w') x' → Rd x' A m from fun x' hx => H.out.below (HZ.out.trans (hx.2.2.2.2.mono HZ.out.size)))
    have HE := Lib.hid (show ∀ x', (fun w' => w'.cell? ⟨w.heap.size, 0, none⟩ = some (.int .i64 W) ∧ w'.cell? ⟨w.heap.size, 1, none⟩ = some (.int .i64 D) ∧ w'.cell? ⟨w.heap.size, 2, none⟩ = some (.int .i64 J) ∧ w'.cell? ⟨w.heap.size, 3, none⟩ = some (.int .i64 S) ∧ Below w1.heap.size w1 w') x' → Below w1.heap.size w1 x' from fun x' hx => hx.2.2.2.2)
    have hn0 : w1.heap.size ≤ w1.heap.size := Nat.le_refl _
    have hHeld0 := HKK.out _ (Below.refl _ _)
    go_region_held3 (fun w' => w'.cell? ⟨w.heap.size, 0, none⟩ = some (.int .i64 W) ∧ w'.cell? ⟨w.heap.size, 1, none⟩ = some (.int .i64 D) ∧ w'.cell? ⟨w.heap.size, 2, none⟩ = some (.int .i64 J) ∧ w'.cell? ⟨w.heap.size, 3, none⟩ = some (.int .i64 S) ∧ Below w1.heap.size w1 w')
      (first | with_reducible exact hd_drew HKK.out (fun _ h => h.2.2.2.2) (by assumption) | with_reducible exact hd_call HKK.out (fun _ h => h.2.2.2.2) (by assumption) (by assumption) hn0)
      (first
      | (go_at_call 49; (refine (top_any W D J S x _).mono ?_); rintro _ w2 ⟨rfl, hb⟩)
      | (go_at_call 50; (refine (bottom_any W D J S x _).mono ?_); rintro _ w2 ⟨rfl, hb⟩)
      | (go_at_call 48; (refine (load_any A n c m _ _ (HR.out _ (by assumption)) HN.out hs).mono ?_); rintro _ w2 ⟨rfl, hb⟩))
    all_goals
      go_wp2_with fail
      go_meet
      exact ⟨by rw [HT.out], by rw [HB.out], Lib.hid (HE.out _ (by assumption))⟩
  case rest =>
    obtain ⟨rfl, rfl, HZ2⟩ := hcut
    obtain ⟨_, b0, b1, b2, b3⟩ := BX.out.below HZ2.out
    have HZ3 := Lib.hid (HZ.out.trans (HZ2.out.mono HZ.out.size))
    go_wp2_with fail
    refine (far_any B T _).mono ?_
    rintro _ _ ⟨rfl, rfl⟩
    rcases HO.out with ⟨rfl, h1 | ⟨h1, h2⟩⟩ | ⟨N, hN, hND, rfl⟩
    · have hd : decide (far B T < 0) = true := decide_eq_true h1
      generalize far B T = k at *
      go_wp2
      refine bodyPost_ret (by simp [results, Try.results21, go_sem]; try rfl) rfl ?_
      exact ⟨none, 0, rfl, Nat.le_refl _, Rd.nil _ _, HZ3.out⟩
    · have hd : decide (far B T < 0) = false := decide_eq_false (by omega)
      have hd2 : decide (far B T > D) = true := decide_eq_true h2
      generalize far B T = k at *
      go_wp2
      refine bodyPost_ret (by simp [results, Try.results21, go_sem]; try rfl) rfl ?_
      exact ⟨none, 0, rfl, Nat.le_refl _, Rd.nil _ _, HZ3.out⟩
    · rw [hN]
      have hN0 : decide ((N : Int) < 0) = false := decide_eq_false (by omega)
      have hN1 : decide ((N : Int) > D) = false := decide_eq_false (by omega)
      have hN2 := Lib.hid hND
      have hN3 : N ≤ 16 := by have := HD.out; omega
      clear hN hND HO HT HB b0 b2 b3
      go_wp2
      clear hN0 hN1 b1
      go_loopw [40, 11] (fun i s wr => ∃ (j : Nat) (R : Option Addr) (d : Nat), i = .int .i64 j ∧ s = .slice R j d ∧ j ≤ N ∧ Hid (Own wr w1.heap.size R j d (lN D J m x T j)) ∧ Hid (Below w1.heap.size w1 wr)) (fun i _ _ => N - (intOf i).toNat)
      case atStart => exact ⟨0, none, 0, rfl, rfl, by omega, Lib.hid (Own.nil _ _), HZ2⟩
      case round =>
        clear HZ2 HZ3
        obtain ⟨j, R, d, rfl, rfl, hj, HOW, HZ2⟩ := hrel
        by_cases hlt : j < N
        · obtain ⟨g0, b0, b1, b2, b3⟩ := BX.out.below HZ2.out
          have hw1 : IntKind.u64.wrap (j : Int) = (j : Int) := by rw [IntKind.wrap_u64]; omega
          have hw2 : IntKind.u64.wrap (T + (j : Int)) = (T + (j : Int)) % 18446744073709551616 := IntKind.wrap_u64 _
          have HU := Lib.hid (mod_U (T + (j : Int)))
          have HSI := Lib.hid (show at0 m (sl W D J S x ((T + (j : Int)) % 18446744073709551616)) = at0 m (sI D J x (T + j)) by rw [sl_ok HK.out, sI_mod (okw_iff.1 HK.out).1])
          generalize (T + (j : Int)) % 18446744073709551616 = X at hw2 HU HSI
          go_wp2_with fail
          refine (slot_any W D J S x X _ HU.out).mono ?_
          rintro _ w3 ⟨rfl, z3⟩
          have HZ4 := Lib.hid (keep_call z3 HZ2.out)
          have HO3 := Lib.hid (HOW.out.after z3)
          obtain ⟨g1, b0, b1, b2, b3⟩ := BX.out.below HZ4.out
          go_wp2_with fail
          refine (ret_of (load_any A n c m _ _ (H.out.below (HZ.out.trans (HZ4.out.mono HZ.out.size))) HN.out hs) (v' := .int .u64 (at0 m (sI D J x (T + j)))) (by rw [HSI.out])).mono ?_
          rintro _ w4 ⟨rfl, z4⟩
          have HE := Lib.hid (lN_succ D J m x T j)
          generalize at0 m (sI D J x (T + j)) = V at HE ⊢
          have za := bel_alloc w4 (.cells #[.int .u64 V] 26)
          have HZ5 := Lib.hid (keep_call z4 HZ4.out)
          obtain ⟨R', d', w5, hrun, hown, hb⟩ := run_appN (m := 1) ((HO3.out.after z4).after za) 1 (rd_one w4 V) rfl (by omega) (Nat.le_trans HZ5.out.size za.size)
          have HOW5 := Lib.hid hown
          have HRUN := Lib.hid hrun
          have HZ6 := Lib.hid ((keep_call za HZ5.out).trans hb)
          clear hrun hown hb za z4 z3
          go_wp2_with (at_builtin; (with_reducible refine wpList_append_run HRUN.out ?_ ?_ ?_ ?_); exact ⟨_, _, rfl, rfl, rfl⟩; rfl; rfl)
          go_roundw
          case rel => exact ⟨j + 1, R', d', by go_num, rfl, by omega, by rw [HE.out]; exact HOW5, HZ6⟩
          case measure => simp [intOf]; omega
        · obtain rfl : j = N := by omega
          have HZ3 := Lib.hid (HZ.out.trans (HZ2.out.mono HZ.out.size))
          go_wp2
          refine bodyPost_ret (by simp [results, Try.results21, go_sem]; try rfl) rfl ?_
          exact ⟨R, d, by simp [lN_len], by simpa [lN_len] using HOW.out.cap, HOW.out.rd, HZ3.out⟩
set_option maxRecDepth 100000 in
theorem list_any (W D J S x : Int) (A : Option Addr) (n c : Nat) (m : List Int) (w : World) (h : Rd w A m) (hn : m.length = n) :
    Calls Try.prog 21 #[cf W D J S, .slice A n c, .int .i64 x] w (RetL w (lst W D J S m x)) := by
  cases hk : okw W D J S m x
  · rw [lst_no (fun h' => by rw [hk] at h'; cases h')]
    exact list_there W D J S x A n c m w hn hk
  · by_cases h0 : far (at0 m (bg D J x + 1)) (at0 m (bg D J x)) < 0
    · rw [lst_no (fun _ => .inl h0)]
      exact list_here W D J S x _ _ A n c m w h hn hk rfl rfl none (.inl ⟨rfl, .inl h0⟩)
    · by_cases h1 : far (at0 m (bg D J x + 1)) (at0 m (bg D J x)) ≤ D
      · obtain ⟨j, hj⟩ := Int.eq_ofNat_of_zero_le (show 0 ≤ far (at0 m (bg D J x + 1)) (at0 m (bg D J x)) by omega)
        rw [lst_yes hk hj (by omega)]
        exact list_here W D J S x _ _ A n c m w h hn hk rfl rfl _ (.inr ⟨j, hj, by omega, rfl⟩)
      · rw [lst_no (fun _ => .inr (by omega))]
        exact list_here W D J S x _ _ A n c m w h hn hk rfl rfl none (.inl ⟨rfl, .inr ⟨by omega, by omega⟩⟩)
end Go.Proofs.Ytpeaahihjeplmaa
namespace Go.Proofs.Ytpeaahihjeplmaa
open Go.RowKit Go.Deep
/-- All blocks but block g stay. -/
structure Kb (g : Nat) (w w' : World) : Prop where
  low : Below g w w'
  others : ∀ b, b < w.heap.size → b ≠ g → w'.heap[b]? = w.heap[b]?
set_option maxRecDepth 100000 in
theorem Kb.refl (g : Nat) (w : World) : Kb g w w := ⟨Below.refl _ _, fun _ _ _ => rfl⟩
set_option maxRecDepth 100000 in
theorem Kb.size {g : Nat} {w w' : World} (h : Kb g w w') : w.heap.size ≤ w'.heap.size := h.low.size
set_option maxRecDepth 100000 in
theorem Kb.call {g : Nat} {w w1 w2 : World} (h : Kb g w w1) (hg : g < w.heap.size) (hb : Below w1.heap.size w1 w2) : Kb g w w2 :=
  ⟨h.low.trans (hb.mono (Nat.le_trans (Nat.le_of_lt hg) h.size)), fun b h1 h2 => (hb.block b (Nat.lt_of_lt_of_le h1 h.size)).trans (h.others b h1 h2)⟩
set_option maxRecDepth 100000 in
theorem Kb.set {g : Nat} {w w1 : World} (h : Kb g w w1) (k : Nat) (v : Value) : Kb g w (w1.setCell ⟨g, k, none⟩ v) :=
  ⟨h.low.setCell (Nat.le_refl _) _, fun b h1 h2 => (Below.heap_setCell w1 ⟨g, k, none⟩ v b h2).trans (h.others b h1 h2)⟩
set_option maxRecDepth 100000 in
theorem Kb.pf {g : Nat} {w w1 : World} (h : Kb g w w1) (f : Fr) : Kb g w (pf w1 g f) :=
  ((((((h.set 0 _).set 1 _).set 2 _).set 3 _).set 4 _).set 5 _).set 6 _
set_option maxRecDepth 100000 in
theorem Kb.drew {g : Nat} {w w' : World} (h : Kb g w w') : Kb g w w'.drew := ⟨h.low.drew, h.others⟩
set_option maxRecDepth 100000 in
theorem Bx.kb {g c : Nat} {w w' : World} {W D J S : Int} (h : Bx w c W D J S) (hk : Kb g w w') (hc : c ≠ g) : Bx w' c W D J S := by
  have e : w'.heap[c]? = w.heap[c]? := hk.others c h.1 hc
  exact ⟨Nat.lt_of_lt_of_le h.1 hk.size, (World.cell?_of_block e).trans h.2.1, (World.cell?_of_block e).trans h.2.2.1, (World.cell?_of_block e).trans h.2.2.2.1, (World.cell?_of_block e).trans h.2.2.2.2⟩
set_option maxRecDepth 100000 in
theorem Bf.kb {g c : Nat} {w w' : World} {f : Fr} (h : Bf w c f) (hk : Kb g w w') (hc : c ≠ g) : Bf w' c f := (hk.others c h.lt hc).trans h
set_option maxRecDepth 100000 in
theorem Rx.kb {lo g : Nat} {w w' : World} {A : Option Addr} {l : List Int} (h : Rx lo g w A l) (hk : Kb g w w') : Rx lo g w' A l := fun hp => by
  obtain ⟨ad, e, hl, hne, hlt, hc⟩ := h hp
  exact ⟨ad, e, hl, hne, Nat.lt_of_lt_of_le hlt hk.size, fun j u hu => (World.cell?_of_block (by rw [block_add]; exact hk.others _ hlt hne)).trans (hc j u hu)⟩
set_option maxRecDepth 100000 in
theorem Rd.rx {g : Nat} {w : World} {A : Option Addr} {l : List Int} (h : Rd w A l) (hg : w.heap.size ≤ g) : Rx 0 g w A l := fun hp => by
  obtain ⟨ad, e, hlt, hc⟩ := h hp
  exact ⟨ad, e, Nat.zero_le _, by omega, hlt, hc⟩
set_option maxRecDepth 100000 in
/-- A step, where the cells are as many as before. -/
theorem step_n {W D J S : Int} {A : Option Addr} {n c : Nat} {l : List Int} {f : Fr} {w : World} (h : Rd w A l) (hn : l.length = n) (hs : n ≤ 500) (hf : UF f) {l' : List Int} {f' : Fr} (e : pushS W D J S l f = (l', f')) :
    Calls Try.prog 25 #[cf W D J S, .slice A n c, fv f] w fun e w' => ∃ A' c', e = .returned (.tuple #[.slice A' n c', fv f']) ∧ Rn w.heap.size w' A' l' ∧ Below w.heap.size w w' := by
  subst hn
  have h2 := step_any W D J S A c l f w h hs hf
  have hl := pushS_len W D J S l f
  rw [e] at h2 hl
  refine h2.mono ?_
  rintro _ w' ⟨A', c', rfl, h3, h4⟩
  exact ⟨A', c', by rw [show l'.length = l.length from hl], h3, h4⟩
set_option maxRecDepth 100000 in
/-- A list, where it is known. -/
theorem list_n {W D J S x : Int} {A : Option Addr} {n c : Nat} {m : List Int} {w : World} (h : Rd w A m) (hn : m.length = n) {o : Option (List Int)} (e : lst W D J S m x = o) {k : Nat} (hk : (o.getD []).length = k) {b : Bool} (hb : o.isSome = b) :
    Calls Try.prog 21 #[cf W D J S, .slice A n c, .int .i64 x] w fun e w' => ∃ A' c', e = .returned (.tuple #[.slice A' k c', .bool b]) ∧ k ≤ c' ∧ Rd w' A' (o.getD []) ∧ Below w.heap.size w w' := by
  subst e hk hb
  exact list_any W D J S x A n c m w h hn
set_option maxRecDepth 100000 in
theorem pushN_succ (W D J S : Int) (n : Nat) (s : List Int × Fr) : pushN W D J S (n + 1) s = pushS W D J S (pushN W D J S n s).1 (pushN W D J S n s).2 := rfl
/-- The cells of the chapter's example. -/
def ex0 : List Int := List.replicate 12 0
set_option maxRecDepth 100000 in
theorem ex_len (k : Nat) (f : Fr) : (pushN 1 1 1 0 k (ex0, f)).1.length = 12 := pushN_len _ _ _ _ _ _
set_option maxRecDepth 100000 in
theorem ex4 : pushN 1 1 1 0 4 (ex0, fbg 0 0 7) = ([0, 0, 0, 0, 0, 0, 0, 0, 0, 1, 0, 7], ⟨0, 0, 0, 7, 0, 0, 1⟩) := by rfl
set_option maxRecDepth 100000 in
theorem ex6 : pushN 1 1 1 0 2 ([0, 0, 0, 0, 0, 0, 0, 0, 0, 1, 0, 7], fbg 0 0 8) = ([0, 0, 0, 0, 0, 0, 0, 0, 0, 1, 0, 7], ⟨0, 0, 0, 8, 0, 0, 2⟩) := by rfl
set_option maxRecDepth 100000 in
theorem exl : lst 1 1 1 0 [0, 0, 0, 0, 0, 0, 0, 0, 0, 1, 0, 7] 0 = some [7] := by decide +kernel
set_option maxRecDepth 100000 in
theorem exg : goes 1 1 1 0 [0, 0, 0, 0, 0, 0, 0, 0, 0, 1, 0, 7] (fbg 0 0 7) 0 4 = true := by rfl
set_option maxRecDepth 100000 in
theorem U0 : U 0 := by unfold U; omega
set_option maxRecDepth 100000 in
theorem ex_U (k : Nat) : UF (pushN 1 1 1 0 k (ex0, fbg 0 0 7)).2 := (pushN_U (s := (ex0, fbg 0 0 7)) (fun u hu => by rw [List.eq_of_mem_replicate hu]; exact U0) ⟨by unfold U fbg; simp, U0, U0⟩ k).2
set_option maxRecDepth 100000 in
theorem ex_U2 (k : Nat) : UF (pushN 1 1 1 0 k ([0, 0, 0, 0, 0, 0, 0, 0, 0, 1, 0, 7], fbg 0 0 8)).2 := (pushN_U (s := ([0, 0, 0, 0, 0, 0, 0, 0, 0, 1, 0, 7], fbg 0 0 8)) (fun u hu => by
  simp only [List.mem_cons, List.not_mem_nil, or_false] at hu
  unfold U
  omega) ⟨by unfold U fbg; simp, U0, U0⟩ k).2
end Go.Proofs.Ytpeaahihjeplmaa
