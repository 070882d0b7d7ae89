/- Contract of note.Step: a step of a wake, as on lists. -/
import Derived.Test.YtgemaeibmgkneaaNtC
import Derived.Test.YtgemaeibmgkneaaInA
import Derived.Deep.CutRange
import Derived.Deep.DeepCutAuto
namespace Go.Proofs.Ytgemaeibmgkneaa
open Go.RowKit Go.Deep
set_option maxRecDepth 100000 in
theorem nstep_0 {lo g : Nat} {W D J S : Int} {v : Value} {f f' : Fr} {l : List Int} {w : World} (hB : Bo w g W D J S v f) (hp : f.pc = 0) (h : Calls Try.prog 52 #[.pointer (some ⟨g, 0, none⟩)] w (Lo lo w g f' W D J S l)) :
    Calls Try.prog 36 #[.pointer (some ⟨g, 0, none⟩)] w (Lo lo w g f' W D J S l) := by
  have H := Lib.hid h
  have a6 := hB.cells.2.2.2.2.2.2.1
  rw [hp] at a6
  clear h hB hp
  go_enter Try.func36, Try.ntmps36
  go_wp2_with fail
  refine H.out.mono ?_
  rintro _ w2 ⟨A', c', rfl, hb, ha, hz⟩
  clear a6
  go_wp2
  refine bodyPost_ret (by simp [results, Try.results36, go_sem]; try rfl) rfl ?_
  exact ⟨A', c', rfl, hb, ha, hz⟩
set_option maxRecDepth 100000 in
theorem nstep_1 {lo g : Nat} {W D J S : Int} {v : Value} {f f' : Fr} {l : List Int} {w : World} (hB : Bo w g W D J S v f) (hp : f.pc = 1) (h : Calls Try.prog 53 #[.pointer (some ⟨g, 0, none⟩)] w (Lo lo w g f' W D J S l)) :
    Calls Try.prog 36 #[.pointer (some ⟨g, 0, none⟩)] w (Lo lo w g f' W D J S l) := by
  have H := Lib.hid h
  have a6 := hB.cells.2.2.2.2.2.2.1
  rw [hp] at a6
  clear h hB hp
  go_enter Try.func36, Try.ntmps36
  go_wp2_with fail
  refine H.out.mono ?_
  rintro _ w2 ⟨A', c', rfl, hb, ha, hz⟩
  clear a6
  go_wp2
  refine bodyPost_ret (by simp [results, Try.results36, go_sem]; try rfl) rfl ?_
  exact ⟨A', c', rfl, hb, ha, hz⟩
set_option maxRecDepth 100000 in
theorem nstep_2 {lo g : Nat} {W D J S : Int} {v : Value} {f f' : Fr} {l : List Int} {w : World} (hB : Bo w g W D J S v f) (hp : f.pc = 2) (h : Calls Try.prog 54 #[.pointer (some ⟨g, 0, none⟩)] w (Lo lo w g f' W D J S l)) :
    Calls Try.prog 36 #[.pointer (some ⟨g, 0, none⟩)] w (Lo lo w g f' W D J S l) := by
  have H := Lib.hid h
  have a6 := hB.cells.2.2.2.2.2.2.1
  rw [hp] at a6
  clear h hB hp
  go_enter Try.func36, Try.ntmps36
  go_wp2_with fail
  refine H.out.mono ?_
  rintro _ w2 ⟨A', c', rfl, hb, ha, hz⟩
  clear a6
  go_wp2
  refine bodyPost_ret (by simp [results, Try.results36, go_sem]; try rfl) rfl ?_
  exact ⟨A', c', rfl, hb, ha, hz⟩
set_option maxHeartbeats 4000000 in
set_option maxRecDepth 100000 in
theorem nstep_leave (W D J S : Int) (A : Option Addr) (c : Nat) (l : List Int) (f : Fr) (w : World) (h : Rd w A l) (hs : l.length ≤ 500) (hg : goesN W D J S l f = false) :
    Calls Try.prog 16 #[cf W D J S, .slice A l.length c, fv f] w (RetS w l f) := by
  obtain ⟨BX, BF, B0, Z, hz⟩ := boxes3 w W D J S f
  have H := Lib.hid (h.below Z); clear h
  have HS := Lib.hid hs; clear hs
  have HG := Lib.hid hg; clear hg
  obtain ⟨o, p, q, v, x, y, s⟩ := f
  go_enter Try.func16, Try.ntmps16
  go_upto_region 1 with fail
  change Code.wp _ _ _ _ (bx3 w W D J S ⟨o, p, q, v, x, y, s⟩)
  generalize bx3 w W D J S ⟨o, p, q, v, x, y, s⟩ = w0 at BX BF B0 Z hz H ⊢
  go_cut [8] from 10 to 14 (fun t wr => ∃ (g : Nat) (A' : Option Addr) (c' : Nat), t = .pointer (some ⟨g, 0, none⟩) ∧ Hid (Bo wr g W D J S (.slice A' l.length c') ⟨o, p, q, v, x, y, s⟩) ∧ Hid (Rx w0.heap.size g wr A' l) ∧ Hid (Below w0.heap.size w0 wr) ∧ Hid (w0.heap.size ≤ g))
  case first =>
    have HZ := Lib.hid hz
    clear hz
    have HK := Lib.hid (show ∀ x', Below w0.heap.size w0 x' → (fun w' => w'.cell? ⟨w.heap.size, 0, none⟩ = some (.int .i64 W) ∧ w'.cell? ⟨w.heap.size, 1, none⟩ = some (.int .i64 D) ∧ w'.cell? ⟨w.heap.size, 2, none⟩ = some (.int .i64 J) ∧ w'.cell? ⟨w.heap.size, 3, none⟩ = some (.int .i64 S) ∧ w'.cell? ⟨w.heap.size + 1, 0, none⟩ = some (.int .i64 o) ∧ w'.cell? ⟨w.heap.size + 1, 1, none⟩ = some (.int .i64 p) ∧ w'.cell? ⟨w.heap.size + 1, 2, none⟩ = some (.int .i64 q) ∧ w'.cell? ⟨w.heap.size + 1, 3, none⟩ = some (.int .u64 v) ∧ w'.cell? ⟨w.heap.size + 1, 4, none⟩ = some (.int .u64 x) ∧ w'.cell? ⟨w.heap.size + 1, 5, none⟩ = some (.int .u64 y) ∧ w'.cell? ⟨w.heap.size + 1, 6, none⟩ = some (.int .i64 s) ∧ Below w0.heap.size w0 w') x' from fun x' hx => by
      obtain ⟨_, e0, e1, e2, e3⟩ := BX.below hx
      obtain ⟨f0, f1, f2, f3, f4, f5, f6⟩ := (BF.after hx).cells
      exact ⟨e0, e1, e2, e3, f0, f1, f2, f3, f4, f5, f6, hx⟩)
    have hHeld0 := HK.out _ (Below.refl _ _)
    have hn0 : w0.heap.size ≤ w0.heap.size := Nat.le_refl _
    have zr := (Below.refl w0.heap.size w0).drew
    go_region_held3 (fun w' => w'.cell? ⟨w.heap.size, 0, none⟩ = some (.int .i64 W) ∧ w'.cell? ⟨w.heap.size, 1, none⟩ = some (.int .i64 D) ∧ w'.cell? ⟨w.heap.size, 2, none⟩ = some (.int .i64 J) ∧ w'.cell? ⟨w.heap.size, 3, none⟩ = some (.int .i64 S) ∧ w'.cell? ⟨w.heap.size + 1, 0, none⟩ = some (.int .i64 o) ∧ w'.cell? ⟨w.heap.size + 1, 1, none⟩ = some (.int .i64 p) ∧ w'.cell? ⟨w.heap.size + 1, 2, none⟩ = some (.int .i64 q) ∧ w'.cell? ⟨w.heap.size + 1, 3, none⟩ = some (.int .u64 v) ∧ w'.cell? ⟨w.heap.size + 1, 4, none⟩ = some (.int .u64 x) ∧ w'.cell? ⟨w.heap.size + 1, 5, none⟩ = some (.int .u64 y) ∧ w'.cell? ⟨w.heap.size + 1, 6, none⟩ = some (.int .i64 s) ∧ Below w0.heap.size w0 w')
      (first | with_reducible exact hd_drew HK.out (fun _ h => h.2.2.2.2.2.2.2.2.2.2.2) (by assumption) | with_reducible exact hd_alloc HK.out (fun _ h => h.2.2.2.2.2.2.2.2.2.2.2) hn0 _ (by assumption) | with_reducible exact hd_alloc_drew HK.out (fun _ h => h.2.2.2.2.2.2.2.2.2.2.2) hn0 _ (by assumption) | with_reducible exact hd_call HK.out (fun _ h => h.2.2.2.2.2.2.2.2.2.2.2) (by assumption) (by assumption) hn0 | with_reducible exact HK.out _ (z1.alloc z1.size _) | with_reducible exact hd_set12 HK.out (Nat.le_refl _) _ _ _ _ _ _ _ _ _ _ _ _ z1)
      (first
      | (go_at_call 34; (refine (clone_any A l.length c l w0.drew (H.out.below zr) rfl HS.out).mono ?_); rintro _ w1 ⟨A1, c1, rfl, hr1, hb1⟩; have HR1 := Lib.hid hr1; have z1 : Below w0.heap.size w0 w1 := keep_call hb1 zr; clear hr1)
      | (go_at_call 34; (refine (clone_any A l.length c l _ (H.out.below (zr.alloc (Nat.le_refl _) _)) rfl HS.out).mono ?_); rintro _ w1 ⟨A1, c1, rfl, hr1, hb1⟩; have HR1 := Lib.hid hr1; have z1 : Below w0.heap.size w0 w1 := (zr.alloc (Nat.le_refl _) _).trans (hb1.mono (by simp)); have e1 := (Bo.new w0).drew.after hb1; have E1 := Lib.hid e1; obtain ⟨d0, d1, d2, d3, d4, d5, d6, d7, d8, d9, d10, d11⟩ := e1.cells; have fz := e1.free; clear hr1 e1))
    · go_wp2_with fail
      go_meet
      exact ⟨w1.heap.size, A1, c1, rfl, Lib.hid (heap_alloc_new _ _), Lib.hid ((HR1.out.rx (Nat.le_refl _) (.inr (Nat.le_refl _))).after (bel_alloc w1 _)), Lib.hid (z1.alloc z1.size _), Lib.hid z1.size⟩
    · go_wp2_with fail
      go_meet
      change ∃ (g : Nat) (A' : Option Addr) (c' : Nat), Value.pointer (some ⟨w0.heap.size, 0, none⟩) = .pointer (some ⟨g, 0, none⟩) ∧ Hid (Bo (ppo w1 w0.heap.size W D J S (.slice A1 l.length c1) ⟨o, p, q, v, x, y, s⟩) g W D J S (.slice A' l.length c') ⟨o, p, q, v, x, y, s⟩) ∧ Hid (Rx w0.heap.size g (ppo w1 w0.heap.size W D J S (.slice A1 l.length c1) ⟨o, p, q, v, x, y, s⟩) A' l) ∧ Hid (Below w0.heap.size w0 (ppo w1 w0.heap.size W D J S (.slice A1 l.length c1) ⟨o, p, q, v, x, y, s⟩)) ∧ Hid (w0.heap.size ≤ g)
      exact ⟨w0.heap.size, A1, c1, rfl, Lib.hid (E1.out.ppo _ _ _ _ _ _), Lib.hid ((HR1.out.rx (by simp) (.inl (by simp))).ppo _ _ _ _ _ _), Lib.hid (below_ppo z1 (Nat.le_refl _) _ _ _ _ _ _), Lib.hid (Nat.le_refl _)⟩
  case rest =>
    obtain ⟨g, A', c', rfl, HB, HR, HZ, HL⟩ := hcut
    obtain ⟨_, b0, b1, b2, b3⟩ := BX.below HZ.out
    obtain ⟨a0, a1, a2, a3, a4, a5, a6⟩ := (BF.after HZ.out).cells
    go_wp2_with fail
    refine (Tells.of (ngoes_any W D J S A l.length c l ⟨o, p, q, v, x, y, s⟩ _ rfl) (v' := .bool false) (by rw [HG.out])).mono ?_
    rintro _ w3 ⟨rfl, z3⟩
    have HB3 := Lib.hid (HB.out.after z3)
    have HR3 := Lib.hid (HR.out.after z3)
    have z30 := keep_call z3 HZ.out
    have B03 := B0.after z30
    obtain ⟨b0, b1, b2, b3, b4, b5, b6, b7, b8, b9, b10, b11⟩ := HB3.out.cells
    obtain ⟨d0, d1, d2, d3, d4, d5, d6⟩ := B03.cells
    have fz := B03.free
    go_wp2_with fail
    have HZ3 := Lib.hid (Z.trans (z30.mono (by omega)))
    have hl2 : w.heap.size ≤ w.heap.size + 1 + 1 := by omega
    have hh2 : w.heap.size + 1 + 1 < w0.heap.size := by omega
    have HG2 := Lib.hid (show w.heap.size + 1 + 1 < g from Nat.lt_of_lt_of_le hh2 HL.out)
    have hz2 : w.heap.size ≤ w0.heap.size := by omega
    clear hz z3 z30 HZ HL
    go_region
    all_goals
      go_wp2
      change bodyPost _ _ _ _ _ (pf w3 (w.heap.size + 1 + 1) ⟨o, p, q, v, x, y, s⟩).drew
      refine bodyPost_ret (results_fr Try.results16 _ rfl ((B03.pf _).drew)) rfl ?_
      exact ⟨A', c', rfl, ((HR3.out.rn.pf hh2 _).drew).mono hz2, (below_pf HZ3.out hl2 _).drew⟩
set_option maxHeartbeats 4000000 in
set_option maxRecDepth 100000 in
theorem nstep_deed (W D J S : Int) (A : Option Addr) (c : Nat) (l l' : List Int) (f f' : Fr) (w : World) (h : Rd w A l) (hs : l.length ≤ 500) (hg : goesN W D J S l f = true)
    (C : ∀ (lo g : Nat) (A : Option Addr) (c : Nat) (w : World), Bo w g W D J S (.slice A l.length c) f → Rx lo g w A l → lo ≤ w.heap.size → Calls Try.prog 36 #[.pointer (some ⟨g, 0, none⟩)] w (Lo lo w g f' W D J S l')) :
    Calls Try.prog 16 #[cf W D J S, .slice A l.length c, fv f] w (RetS w l' f') := by
  obtain ⟨BX, BF, B0, Z, hz⟩ := boxes3 w W D J S f
  have H := Lib.hid (h.below Z); clear h
  have HS := Lib.hid hs; clear hs
  have HG := Lib.hid hg; clear hg
  obtain ⟨o, p, q, v, x, y, s⟩ := f
  have CC := Lib.hid C; clear C
  go_enter Try.func16, Try.ntmps16
  go_upto_region 1 with fail
  change Code.wp _ _ _ _ (bx3 w W D J S ⟨o, p, q, v, x, y, s⟩)
  generalize bx3 w W D J S ⟨o, p, q, v, x, y, s⟩ = w0 at BX BF B0 Z hz H ⊢
  go_cut [8] from 10 to 14 (fun t wr => ∃ (g : Nat) (A' : Option Addr) (c' : Nat), t = .pointer (some ⟨g, 0, none⟩) ∧ Hid (Bo wr g W D J S (.slice A' l.length c') ⟨o, p, q, v, x, y, s⟩) ∧ Hid (Rx w0.heap.size g wr A' l) ∧ Hid (Below w0.heap.size w0 wr) ∧ Hid (w0.heap.size ≤ g))
  case first =>
    have HZ := Lib.hid hz
    clear hz
    have HK := Lib.hid (show ∀ x', Below w0.heap.size w0 x' → (fun w' => w'.cell? ⟨w.heap.size, 0, none⟩ = some (.int .i64 W) ∧ w'.cell? ⟨w.heap.size, 1, none⟩ = some (.int .i64 D) ∧ w'.cell? ⟨w.heap.size, 2, none⟩ = some (.int .i64 J) ∧ w'.cell? ⟨w.heap.size, 3, none⟩ = some (.int .i64 S) ∧ w'.cell? ⟨w.heap.size + 1, 0, none⟩ = some (.int .i64 o) ∧ w'.cell? ⟨w.heap.size + 1, 1, none⟩ = some (.int .i64 p) ∧ w'.cell? ⟨w.heap.size + 1, 2, none⟩ = some (.int .i64 q) ∧ w'.cell? ⟨w.heap.size + 1, 3, none⟩ = some (.int .u64 v) ∧ w'.cell? ⟨w.heap.size + 1, 4, none⟩ = some (.int .u64 x) ∧ w'.cell? ⟨w.heap.size + 1, 5, none⟩ = some (.int .u64 y) ∧ w'.cell? ⟨w.heap.size + 1, 6, none⟩ = some (.int .i64 s) ∧ Below w0.heap.size w0 w') x' from fun x' hx => by
      obtain ⟨_, e0, e1, e2, e3⟩ := BX.below hx
      obtain ⟨f0, f1, f2, f3, f4, f5, f6⟩ := (BF.after hx).cells
      exact ⟨e0, e1, e2, e3, f0, f1, f2, f3, f4, f5, f6, hx⟩)
    have hHeld0 := HK.out _ (Below.refl _ _)
    have hn0 : w0.heap.size ≤ w0.heap.size := Nat.le_refl _
    have zr := (Below.refl w0.heap.size w0).drew
    go_region_held3 (fun w' => w'.cell? ⟨w.heap.size, 0, none⟩ = some (.int .i64 W) ∧ w'.cell? ⟨w.heap.size, 1, none⟩ = some (.int .i64 D) ∧ w'.cell? ⟨w.heap.size, 2, none⟩ = some (.int .i64 J) ∧ w'.cell? ⟨w.heap.size, 3, none⟩ = some (.int .i64 S) ∧ w'.cell? ⟨w.heap.size + 1, 0, none⟩ = some (.int .i64 o) ∧ w'.cell? ⟨w.heap.size + 1, 1, none⟩ = some (.int .i64 p) ∧ w'.cell? ⟨w.heap.size + 1, 2, none⟩ = some (.int .i64 q) ∧ w'.cell? ⟨w.heap.size + 1, 3, none⟩ = some (.int .u64 v) ∧ w'.cell? ⟨w.heap.size + 1, 4, none⟩ = some (.int .u64 x) ∧ w'.cell? ⟨w.heap.size + 1, 5, none⟩ = some (.int .u64 y) ∧ w'.cell? ⟨w.heap.size + 1, 6, none⟩ = some (.int .i64 s) ∧ Below w0.heap.size w0 w')
      (first | with_reducible exact hd_drew HK.out (fun _ h => h.2.2.2.2.2.2.2.2.2.2.2) (by assumption) | with_reducible exact hd_alloc HK.out (fun _ h => h.2.2.2.2.2.2.2.2.2.2.2) hn0 _ (by assumption) | with_reducible exact hd_alloc_drew HK.out (fun _ h => h.2.2.2.2.2.2.2.2.2.2.2) hn0 _ (by assumption) | with_reducible exact hd_call HK.out (fun _ h => h.2.2.2.2.2.2.2.2.2.2.2) (by assumption) (by assumption) hn0 | with_reducible exact HK.out _ (z1.alloc z1.size _) | with_reducible exact hd_set12 HK.out (Nat.le_refl _) _ _ _ _ _ _ _ _ _ _ _ _ z1)
      (first
      | (go_at_call 34; (refine (clone_any A l.length c l w0.drew (H.out.below zr) rfl HS.out).mono ?_); rintro _ w1 ⟨A1, c1, rfl, hr1, hb1⟩; have HR1 := Lib.hid hr1; have z1 : Below w0.heap.size w0 w1 := keep_call hb1 zr; clear hr1)
      | (go_at_call 34; (refine (clone_any A l.length c l _ (H.out.below (zr.alloc (Nat.le_refl _) _)) rfl HS.out).mono ?_); rintro _ w1 ⟨A1, c1, rfl, hr1, hb1⟩; have HR1 := Lib.hid hr1; have z1 : Below w0.heap.size w0 w1 := (zr.alloc (Nat.le_refl _) _).trans (hb1.mono (by simp)); have e1 := (Bo.new w0).drew.after hb1; have E1 := Lib.hid e1; obtain ⟨d0, d1, d2, d3, d4, d5, d6, d7, d8, d9, d10, d11⟩ := e1.cells; have fz := e1.free; clear hr1 e1))
    · go_wp2_with fail
      go_meet
      exact ⟨w1.heap.size, A1, c1, rfl, Lib.hid (heap_alloc_new _ _), Lib.hid ((HR1.out.rx (Nat.le_refl _) (.inr (Nat.le_refl _))).after (bel_alloc w1 _)), Lib.hid (z1.alloc z1.size _), Lib.hid z1.size⟩
    · go_wp2_with fail
      go_meet
      change ∃ (g : Nat) (A' : Option Addr) (c' : Nat), Value.pointer (some ⟨w0.heap.size, 0, none⟩) = .pointer (some ⟨g, 0, none⟩) ∧ Hid (Bo (ppo w1 w0.heap.size W D J S (.slice A1 l.length c1) ⟨o, p, q, v, x, y, s⟩) g W D J S (.slice A' l.length c') ⟨o, p, q, v, x, y, s⟩) ∧ Hid (Rx w0.heap.size g (ppo w1 w0.heap.size W D J S (.slice A1 l.length c1) ⟨o, p, q, v, x, y, s⟩) A' l) ∧ Hid (Below w0.heap.size w0 (ppo w1 w0.heap.size W D J S (.slice A1 l.length c1) ⟨o, p, q, v, x, y, s⟩)) ∧ Hid (w0.heap.size ≤ g)
      exact ⟨w0.heap.size, A1, c1, rfl, Lib.hid (E1.out.ppo _ _ _ _ _ _), Lib.hid ((HR1.out.rx (by simp) (.inl (by simp))).ppo _ _ _ _ _ _), Lib.hid (below_ppo z1 (Nat.le_refl _) _ _ _ _ _ _), Lib.hid (Nat.le_refl _)⟩
  case rest =>
    obtain ⟨g, A', c', rfl, HB, HR, HZ, HL⟩ := hcut
    obtain ⟨_, b0, b1, b2, b3⟩ := BX.below HZ.out
    obtain ⟨a0, a1, a2, a3, a4, a5, a6⟩ := (BF.after HZ.out).cells
    go_wp2_with fail
    refine (Tells.of (ngoes_any W D J S A l.length c l ⟨o, p, q, v, x, y, s⟩ _ rfl) (v' := .bool true) (by rw [HG.out])).mono ?_
    rintro _ w3 ⟨rfl, z3⟩
    have HB3 := Lib.hid (HB.out.after z3)
    have HR3 := Lib.hid (HR.out.after z3)
    have z30 := keep_call z3 HZ.out
    have B03 := B0.after z30
    clear a0 a1 a2 a3 a4 a5 a6 b0 b1 b2 b3
    have HL2 := HL.out
    have hl2 : w.heap.size ≤ w.heap.size + 1 + 1 := by omega
    have hh2 : w.heap.size + 1 + 1 < w0.heap.size := by omega
    have hz2 : w.heap.size ≤ w0.heap.size := by omega
    have Z4 := Lib.hid z30
    have HB0 := Lib.hid B0
    clear hz z3 z30 B03 B0
    go_wp2_with fail
    refine (CC.out w0.heap.size g A' c' _ HB3.out HR3.out Z4.out.size).mono ?_
    rintro _ w5 ⟨A5, c5, rfl, hb5, hr5, hz5⟩
    have z5 : Below w0.heap.size w0 w5 := Z4.out.trans (hz5.mono HL2)
    have HB5 := Lib.hid hb5
    have HR5 := Lib.hid hr5
    have B03 := HB0.out.after z5
    have HZ5 := Lib.hid (Z.trans (z5.mono hz2))
    obtain ⟨b0, b1, b2, b3, b4, b5, b6, b7, b8, b9, b10, b11⟩ := HB5.out.cells
    obtain ⟨d0, d1, d2, d3, d4, d5, d6⟩ := B03.cells
    have fz := B03.free
    clear hb5 hr5 hz5 z5
    go_wp2_with fail
    go_region
    all_goals
      go_wp2
      change bodyPost _ _ _ _ _ (pf w5 (w.heap.size + 1 + 1) f').drew
      refine bodyPost_ret (results_fr Try.results16 _ rfl ((B03.pf _).drew)) rfl ?_
      exact ⟨A5, c5, rfl, ((HR5.out.rn.pf hh2 _).drew).mono hz2, (below_pf HZ5.out hl2 _).drew⟩
set_option maxRecDepth 100000 in
theorem nxstep_any (W D J S : Int) (A : Option Addr) (c : Nat) (l : List Int) (f : Fr) (w : World) (h : Rd w A l) (hs : l.length ≤ 500) (hf : UF f) :
    Calls Try.prog 16 #[cf W D J S, .slice A l.length c, fv f] w (RetS w (noteS W D J S l f).1 (noteS W D J S l f).2) := by
  cases hg : goesN W D J S l f
  · rw [noteS_stay hg]
    exact nstep_leave W D J S A c l f w h hs hg
  · obtain ⟨hk, hr, ho, h0, h4⟩ := goesN_iff.1 hg
    have hlong := okm_long10 hk
    have hp : f.pc = 0 ∨ f.pc = 1 ∨ f.pc = 2 := by omega
    unfold noteS
    rw [if_pos hg]
    rcases hp with hp | hp | hp
    · rw [if_pos hp]
      exact nstep_deed W D J S A c l l f _ w h hs hg (fun lo g A c w hB hA _ => nstep_0 hB hp (nload_any lo g f W D J S A c l w hB hA hs))
    · rw [if_neg (by omega), if_pos hp]
      have e5 : isAt l 2 f.x = decide (at0 l 2 = f.x) := isAt_at0 (by omega) (by omega)
      have key : ∀ (lo g : Nat) (A : Option Addr) (c : Nat) (w : World), Bo w g W D J S (.slice A l.length c) f → Rx lo g w A l → lo ≤ w.heap.size → Calls Try.prog 53 #[.pointer (some ⟨g, 0, none⟩)] w (Lo lo w g (if isAt l 2 f.x then (if (f.x % 65536 == 0) then ed f 3 0 else { f with pc := 2, y := whN f.op f.x }) else { f with pc := 0 }) W D J S (if isAt l 2 f.x = true then put l 2 (nxN f.op f.x) else l)) := by
        intro lo g A c w hB hA hlo
        rcases ho with ho | ho
        · exact exchange_6 lo g f W D J S (nxN f.op f.x) (whN f.op f.x) _ (isAt l 2 f.x) (f.x % 65536 == 0) _ A c l w hB hA hlo ho hf.2.1 (by rw [ho]) (by rw [ho]) rfl rfl rfl rfl hs
        · exact exchange_7 lo g f W D J S (nxN f.op f.x) (whN f.op f.x) _ (isAt l 2 f.x) (f.x % 65536 == 0) _ A c l w hB hA hlo ho hf.2.1 (by rw [ho]) (by rw [ho]) rfl rfl rfl rfl hs
      by_cases hd : at0 l 2 = f.x
      · rw [if_pos hd]
        refine nstep_deed W D J S A c l _ f _ w h hs hg (fun lo g A c w hB hA hlo => nstep_1 hB hp (Lo.of (key lo g A c w hB hA hlo) ?_ ?_))
        · rw [e5, if_pos (by simpa using hd)]
          by_cases hz : f.x % 65536 = 0
          · rw [if_pos hz, if_pos (by simpa using hz)]
          · rw [if_neg hz, if_neg (by simpa using hz)]
        · rw [e5, if_pos (by simpa using hd)]
      · rw [if_neg hd]
        refine nstep_deed W D J S A c l _ f _ w h hs hg (fun lo g A c w hB hA hlo => nstep_1 hB hp (Lo.of (key lo g A c w hB hA hlo) ?_ ?_))
        · rw [e5, if_neg (by simpa using hd)]
        · rw [e5, if_neg (by simpa using hd)]
    · rw [if_neg (by omega), if_neg (by omega)]
      by_cases h6 : f.op = 6
      · rw [if_pos h6]
        exact nstep_deed W D J S A c l _ f _ w h hs hg (fun lo g A c w hB hA hlo => nstep_2 hB hp (wake_6 lo g f W D J S A c l w hB hA hlo h6 hs))
      · rw [if_neg h6]
        refine nstep_deed W D J S A c l _ f _ w h hs hg (fun lo g A c w hB hA hlo => nstep_2 hB hp (Lo.of (wake_7 lo g f W D J S (rs f.y) (rs f.y == 0) _ A c l w hB hA hlo (by simpa using h6) hf.2.1 hf.2.2 rfl rfl rfl hs) ?_ rfl))
        by_cases hz : rs f.y = 0
        · rw [if_pos (by simpa using hz), if_pos hz]
        · rw [if_neg (by simpa using hz), if_neg hz]
set_option maxRecDepth 100000 in
/-- A step, where the cells are as many as before. -/
theorem note_n {W D J S : Int} {A : Option Addr} {n c : Nat} {l : List Int} {f : Fr} {w : World} (h : Rd w A l) (hn : l.length = n) (hs : n ≤ 500) (hf : UF f) {l' : List Int} {f' : Fr} (e : noteS W D J S l f = (l', f')) :
    Calls Try.prog 16 #[cf W D J S, .slice A n c, fv f] w fun e w' => ∃ A' c', e = .returned (.tuple #[.slice A' n c', fv f']) ∧ Rn w.heap.size w' A' l' ∧ Below w.heap.size w w' := by
  subst hn
  have h2 := nxstep_any W D J S A c l f w h hs hf
  have hl := noteS_len W D J S l f
  rw [e] at h2 hl
  refine h2.mono ?_
  rintro _ w' ⟨A', c', rfl, h3, h4⟩
  exact ⟨A', c', by rw [show l'.length = l.length from hl], h3, h4⟩
end Go.Proofs.Ytgemaeibmgkneaa
