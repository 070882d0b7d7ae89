/- A worker looks (layer 18). -/
import Derived.Test.YtlpkccpijloidaaGreatWkE
namespace Go.Proofs.YtlpkccpijloidaaGreat
set_option linter.unusedSimpArgs false
set_option maxRecDepth 100000
open Go.RowKit Go.Deep
/-- The cell that a look is at. -/
def lkI (D J k : Int) : Int := if k = 0 then 4 else if k = 1 then 5 else if k % 2 = 0 then bg D J ((k - 2) / 2) else bg D J ((k - 2) / 2) + 1
section
variable (k : Wc) {x : WkS} {m : List Int} {w : World}
set_option maxHeartbeats 4000000 in
theorem wat_any {i : Int} (hk : okw k.W k.D k.J k.S m k.me = true) (h0 : 0 ≤ x.look) (h1 : x.look ≤ 1 + 2 * k.W) (hi : lkI k.D k.J x.look = i) (h : Wst k x m [] w) : Tells 66 #[.pointer (some ⟨k.g, 0, none⟩)] w (.int .i64 i) := by
  subst hi
  have hW := (may_lim (okw_iff.1 hk).1).1
  obtain ⟨A0, c0, SA0, cs0, E0, ce0, V0⟩ := h
  have V := Lib.hid V0
  have hg := V0.bx.lt
  obtain ⟨b0, b1, b2, b3, b4, b5, b6, b7, b8, b9, b10, b11, b12, b13, b14, b15, b16, b17, b18, b19⟩ := V0.bx.cells
  have fz := V0.bx.free
  clear V0
  obtain ⟨p, s, ⟨xo, xp, xq, xv, xx, xy, xr⟩, sp, lk⟩ := x
  simp only at b0 b1 b2 b3 b4 b5 b6 b7 b8 b9 b10 b11 b12 b13 b14 b15 b16 b17 b18 b19
  simp only at h0 h1 ⊢
  by_cases e0 : lk = 0
  · subst e0
    show Tells _ _ _ (.int .i64 4)
    go_enter Tryz.func66, Tryz.ntmps66
    go_wp2
    go_ret
    exact ⟨rfl, Below.refl _ _⟩
  by_cases e1 : lk = 1
  · subst e1
    show Tells _ _ _ (.int .i64 5)
    go_enter Tryz.func66, Tryz.ntmps66
    go_wp2
    go_ret
    exact ⟨rfl, Below.refl _ _⟩
  have f0 : (lk == 0) = false := by simpa using e0
  have f1 : (lk == 1) = false := by simpa using e1
  have q1 : wrap64 (lk - 2) = lk - 2 := by unfold wrap64; omega
  obtain ⟨v, hv⟩ : ∃ v, (lk - 2) / 2 = v := ⟨_, rfl⟩
  have q2 : (lk - 2).tdiv 2 = v := by rw [Int.tdiv_eq_ediv_of_nonneg (by omega)]; exact hv
  have q4 : wrap64 v = v := by unfold wrap64; omega
  have hko : okw k.W k.D k.J k.S m v = true := by
    obtain ⟨a1, a2, _, _⟩ := okw_iff.1 hk
    exact okw_iff.2 ⟨a1, a2, by omega, by omega⟩
  by_cases e2 : lk % 2 = 0
  · have q3 : lk.tmod 2 = 0 := by rw [Int.tmod_eq_emod_of_nonneg (by omega)]; exact e2
    have E := Lib.hid (show lkI k.D k.J lk = bg k.D k.J v by unfold lkI; rw [if_neg e0, if_neg e1, if_pos e2, hv])
    rw [E.out]
    clear e0 e1 e2 h0 h1 hv hW
    go_enter Tryz.func66, Tryz.ntmps66
    go_wp2_with fail
    refine (Tells.of (top_any k.W k.D k.J k.S v _) (v' := .int .i64 (bg k.D k.J v)) (by rw [ow_ok hko, Int.add_zero])).mono ?_
    rintro _ w1 ⟨rfl, z1⟩
    have Z := Lib.hid z1
    clear z1
    go_wp2
    go_ret
    exact ⟨rfl, Z.out⟩
  · have q3 : lk.tmod 2 = 1 := by rw [Int.tmod_eq_emod_of_nonneg (by omega)]; omega
    have E := Lib.hid (show lkI k.D k.J lk = bg k.D k.J v + 1 by unfold lkI; rw [if_neg e0, if_neg e1, if_neg e2, hv])
    rw [E.out]
    clear e0 e1 e2 h0 h1 hv hW
    go_enter Tryz.func66, Tryz.ntmps66
    go_wp2_with fail
    refine (Tells.of (bottom_any k.W k.D k.J k.S v _) (v' := .int .i64 (bg k.D k.J v + 1)) (by rw [ow_ok hko])).mono ?_
    rintro _ w1 ⟨rfl, z1⟩
    have Z := Lib.hid z1
    clear z1
    go_wp2
    go_ret
    exact ⟨rfl, Z.out⟩
set_option maxHeartbeats 4000000 in
theorem wmore_any {b : Bool} (u : Int) (hb : (if x.look = 1 then (u != x.f.val) else decide (0 < far u x.f.val)) = b) (h : Wst k x m [] w) : Tells 67 #[.pointer (some ⟨k.g, 0, none⟩), .int .u64 u] w (.bool b) := by
  subst hb
  obtain ⟨A0, c0, SA0, cs0, E0, ce0, V0⟩ := h
  have V := Lib.hid V0
  have hg := V0.bx.lt
  obtain ⟨b0, b1, b2, b3, b4, b5, b6, b7, b8, b9, b10, b11, b12, b13, b14, b15, b16, b17, b18, b19⟩ := V0.bx.cells
  have fz := V0.bx.free
  clear V0
  obtain ⟨p, s, ⟨xo, xp, xq, xv, xx, xy, xr⟩, sp, lk⟩ := x
  simp only at b0 b1 b2 b3 b4 b5 b6 b7 b8 b9 b10 b11 b12 b13 b14 b15 b16 b17 b18 b19
  by_cases e1 : lk = 1
  · subst e1
    rw [if_pos rfl]
    go_enter Tryz.func67, Tryz.ntmps67
    go_wp2
    go_ret
    exact ⟨rfl, Below.refl _ _⟩
  · have f1 : (lk == 1) = false := by simpa using e1
    rw [if_neg e1]
    clear e1
    go_enter Tryz.func67, Tryz.ntmps67
    go_wp2_with fail
    refine (far_any u xv _).mono ?_
    rintro _ _ ⟨rfl, rfl⟩
    go_wp2
    go_ret
    exact ⟨rfl, Below.refl _ _⟩
theorem wbelow_any (a b : Int) (w : World) : Gives 26 #[.int .i64 a, .int .i64 b] w (.bool (decide (0 ≤ a) && decide (a < b))) := by
  by_cases h1 : 0 ≤ a
  · rw [show (decide (0 ≤ a) && decide (a < b)) = decide (a < b) by simp [h1]]
    go_enter Tryz.func26, Tryz.ntmps26
    go_wp2
    go_ret
    exact ⟨rfl, rfl⟩
  · rw [show (decide (0 ≤ a) && decide (a < b)) = false by simp [h1]]
    go_enter Tryz.func26, Tryz.ntmps26
    go_wp2
    go_ret
    exact ⟨rfl, rfl⟩
set_option maxHeartbeats 4000000 in
theorem wlook_out_any (hp : x.look < 0 ∨ 1 + 2 * k.W < x.look) (ok : Wok k x m) (h : Wst k x m [] w) : Calls Tryz.prog 39 #[.pointer (some ⟨k.g, 0, none⟩)] w (Wrt k { x with pc := 8, f := { x.f with val := 0 }, look := 0 } m [] w) := by
  have hW := ok.lw
  obtain ⟨A0, c0, SA0, cs0, E0, ce0, V0⟩ := h
  have V := Lib.hid V0
  have hg := V0.bx.lt
  obtain ⟨b0, b1, b2, b3, b4, b5, b6, b7, b8, b9, b10, b11, b12, b13, b14, b15, b16, b17, b18, b19⟩ := V0.bx.cells
  have fz := V0.bx.free
  clear V0
  obtain ⟨p, s, ⟨xo, xp, xq, xv, xx, xy, xr⟩, sp, lk⟩ := x
  simp only at b0 b1 b2 b3 b4 b5 b6 b7 b8 b9 b10 b11 b12 b13 b14 b15 b16 b17 b18 b19
  have qa : wrap64 (2 * k.W) = 2 * k.W := by unfold wrap64; omega
  have qb : wrap64 (2 + 2 * k.W) = 2 + 2 * k.W := by unfold wrap64; omega
  have HB := Lib.hid (show (decide (0 ≤ lk) && decide (lk < 2 + 2 * k.W)) = false by simp only at hp; simp; omega)
  clear hp
  go_enter Tryz.func39, Tryz.ntmps39
  go_wp2_with fail
  refine (Gives.of (wbelow_any lk (2 + 2 * k.W) _) (v' := .bool false) (by rw [HB.out])).mono ?_
  rintro _ wz ⟨rfl, ez⟩
  rw [ez]
  clear ez wz
  go_wp2_with fail
  refine (wstop_any k V.out.st).mono ?_
  rintro _ w1 ⟨rfl, W1, Z1⟩
  go_wp2
  go_end0
  exact ⟨rfl, W1, Z1⟩
set_option maxHeartbeats 4000000 in
theorem wlook_even_any {u : Int} (hl0 : 0 ≤ x.look) (hl1 : x.look ≤ 1 + 2 * k.W) (he : x.look % 2 = 0) (hval : at0 m (lkI k.D k.J x.look) = u) (ok : Wok k x m) (h : Wst k x m [] w) : Calls Tryz.prog 39 #[.pointer (some ⟨k.g, 0, none⟩)] w (Wrt k { x with f := { x.f with val := u }, look := x.look + 1 } m [] w) := by
  have hW := ok.lw
  obtain ⟨A0, c0, SA0, cs0, E0, ce0, V0⟩ := h
  have V := Lib.hid V0
  have hg := V0.bx.lt
  obtain ⟨b0, b1, b2, b3, b4, b5, b6, b7, b8, b9, b10, b11, b12, b13, b14, b15, b16, b17, b18, b19⟩ := V0.bx.cells
  have fz := V0.bx.free
  clear V0
  obtain ⟨p, s, ⟨xo, xp, xq, xv, xx, xy, xr⟩, sp, lk⟩ := x
  simp only at b0 b1 b2 b3 b4 b5 b6 b7 b8 b9 b10 b11 b12 b13 b14 b15 b16 b17 b18 b19
  have qa : wrap64 (2 * k.W) = 2 * k.W := by unfold wrap64; omega
  have qb : wrap64 (2 + 2 * k.W) = 2 + 2 * k.W := by unfold wrap64; omega
  simp only at hl0 hl1 he hval
  have HB := Lib.hid (show (decide (0 ≤ lk) && decide (lk < 2 + 2 * k.W)) = true by simp; omega)
  have q3 : lk.tmod 2 = 0 := by rw [Int.tmod_eq_emod_of_nonneg (by omega)]; exact he
  have q5 : wrap64 (lk + 1) = lk + 1 := by unfold wrap64; omega
  have q6 : (lk + 1 == 2 + 2 * k.W) = false := by simp; omega
  go_enter Tryz.func39, Tryz.ntmps39
  go_wp2_with fail
  refine (Gives.of (wbelow_any lk (2 + 2 * k.W) _) (v' := .bool true) (by rw [HB.out])).mono ?_
  rintro _ wz ⟨rfl, ez⟩
  rw [ez]
  clear ez wz
  have HK := Lib.hid (show ∀ x', Below w.heap.size w x' → (fun w' => w'.cell? ⟨k.g, 16, none⟩ = some (.slice A0 m.length c0) ∧ Below w.heap.size w w') x' from fun x' hx => ⟨(V.out.after hx).bx.cells.2.2.2.2.2.2.2.2.2.2.2.2.2.2.2.2.1, hx⟩)
  have hHeld0 := HK.out _ (Below.refl _ _)
  have hn0 : w.heap.size ≤ w.heap.size := Nat.le_refl _
  have ZC := Lib.hid (Below.refl w.heap.size w).drew
  go_upto_region 3 with fail
  refine wp_region_held_drew (S := fun w' => w'.cell? ⟨k.g, 16, none⟩ = some (.slice A0 m.length c0) ∧ Below w.heap.size w w') (by kernel_rfl) (hd_drew HK.out (fun _ h => h.2) hHeld0) (fun hHeld => ?_)
  refine tkH 0 (v := ?ve1) rfl ?ye1 ?re1
  case ye1 => (intro w hSw; (try dsimp only at hSw); go_simp; (try with_reducible rfl))
  (try simp only [Act.put, jA, jB, jC])
  refine tkH 1 (v := ?ve2) rfl ?ye2 ?re2
  case ye2 => (intro w hSw; (try dsimp only at hSw); go_simp; (try with_reducible rfl))
  (try simp only [Act.put, jA, jB, jC])
  refine tkH 2 (v := ?ve3) rfl ?ye3 ?re3
  case ye3 => (intro w hSw; (try dsimp only at hSw); go_simp; (try with_reducible rfl))
  (try simp only [Act.put, jA, jB, jC])
  refine tkH 3 (v := ?ve4) rfl ?ye4 ?re4
  case ye4 => (intro w hSw; (try dsimp only at hSw); go_simp; (try with_reducible rfl))
  (try simp only [Act.put, jA, jB, jC])
  refine tkH 4 (v := ?ve5) rfl ?ye5 ?re5
  case ye5 => (intro w hSw; (try dsimp only at hSw); go_simp; (try with_reducible rfl))
  (try simp only [Act.put, jA, jB, jC])
  refine wpAnyH_ready (rs := [5]) (by kernel_rfl) (by simp) ?_
  refine (AllReadyH.cons rfl (fun K hK => ?_) AllReadyH.nil)
  go_simp
  refine (wat_any k ok.ok hl0 hl1 rfl (V.out.after ZC.out).st).mono ?_
  rintro e w1 ⟨rfl, hb⟩
  go_wp2_with fail
  replace ZC := Lib.hid (keep_call (w2 := w) hb ZC.out)
  refine hK.out _ _ (hd_call HK.out (fun _ h => h.2) hb hHeld hn0) (fun hHeld2 => ?_)
  clear hK K hHeld
  have hHeld := hHeld2
  clear hHeld2
  (try simp only [Act.put, jA, jB, jC])
  refine wpAnyH_ready (rs := [6]) (by kernel_rfl) (by simp) ?_
  refine (AllReadyH.cons rfl (fun K hK => ?_) AllReadyH.nil)
  go_simp
  refine (ret_of (load_any A0 m.length c0 m (lkI k.D k.J lk) _ (V.out.after ZC.out).rm.rd rfl ok.hs) (v' := .int .u64 u) (by rw [hval])).mono ?_
  rintro e w2 ⟨rfl, hb⟩
  go_wp2_with fail
  replace ZC := Lib.hid (keep_call (w2 := w) hb ZC.out)
  refine hK.out _ _ (hd_call HK.out (fun _ h => h.2) hb hHeld hn0) (fun hHeld2 => ?_)
  clear hK K hHeld
  have hHeld := hHeld2
  clear hHeld2
  (try simp only [Act.put, jA, jB, jC])
  refine tkH 7 (v := ?ve6) rfl ?ye6 ?re6
  case ye6 => (intro w hSw; (try dsimp only at hSw); go_simp; (try with_reducible rfl))
  (try simp only [Act.put, jA, jB, jC])
  refine wpAnyH_done (by kernel_rfl) ?_ _
  clear hHeld
  have VV := Lib.hid (V.out.after ZC.out)
  clear b0 b1 b2 b3 b4 b5 b6 b7 b8 b9 b10 b11 b12 b13 b14 b15 b16 b17 b18 b19 fz
  obtain ⟨b0, b1, b2, b3, b4, b5, b6, b7, b8, b9, b10, b11, b12, b13, b14, b15, b16, b17, b18, b19⟩ := VV.out.bx.cells
  have fz2 := VV.out.bx.free
  have hl2 := VV.out.bx.lt
  simp only at b0 b1 b2 b3 b4 b5 b6 b7 b8 b9 b10 b11 b12 b13 b14 b15 b16 b17 b18 b19
  go_wp2
  go_end0
  exact ⟨rfl, ((VV.out.setVal u).setLk (lk + 1)).st, ((((Kb.refl _ _).call hg ZC.out).set _ _).set _ _).kd⟩
set_option maxHeartbeats 4000000 in
theorem wlook_more_any {u : Int} (hl0 : 0 ≤ x.look) (hl1 : x.look ≤ 1 + 2 * k.W) (he : ¬ x.look % 2 = 0) (hval : at0 m (lkI k.D k.J x.look) = u) (hmo : (if x.look = 1 then (u != x.f.val) else decide (0 < far u x.f.val)) = true) (ok : Wok k x m) (h : Wst k x m [] w) : Calls Tryz.prog 39 #[.pointer (some ⟨k.g, 0, none⟩)] w (Wrt k (toW x 1 f0) m [] w) := by
  have hW := ok.lw
  obtain ⟨A0, c0, SA0, cs0, E0, ce0, V0⟩ := h
  have V := Lib.hid V0
  have hg := V0.bx.lt
  obtain ⟨b0, b1, b2, b3, b4, b5, b6, b7, b8, b9, b10, b11, b12, b13, b14, b15, b16, b17, b18, b19⟩ := V0.bx.cells
  have fz := V0.bx.free
  clear V0
  obtain ⟨p, s, ⟨xo, xp, xq, xv, xx, xy, xr⟩, sp, lk⟩ := x
  simp only at b0 b1 b2 b3 b4 b5 b6 b7 b8 b9 b10 b11 b12 b13 b14 b15 b16 b17 b18 b19
  have qa : wrap64 (2 * k.W) = 2 * k.W := by unfold wrap64; omega
  have qb : wrap64 (2 + 2 * k.W) = 2 + 2 * k.W := by unfold wrap64; omega
  simp only at hl0 hl1 he hval hmo 
  have HB := Lib.hid (show (decide (0 ≤ lk) && decide (lk < 2 + 2 * k.W)) = true by simp; omega)
  have q3 : lk.tmod 2 = 1 := by rw [Int.tmod_eq_emod_of_nonneg (by omega)]; omega
  have q5 : wrap64 (lk + 1) = lk + 1 := by unfold wrap64; omega
  go_enter Tryz.func39, Tryz.ntmps39
  go_wp2_with fail
  refine (Gives.of (wbelow_any lk (2 + 2 * k.W) _) (v' := .bool true) (by rw [HB.out])).mono ?_
  rintro _ wz ⟨rfl, ez⟩
  rw [ez]
  clear ez wz
  have HK := Lib.hid (show ∀ x', Below w.heap.size w x' → (fun w' => w'.cell? ⟨k.g, 16, none⟩ = some (.slice A0 m.length c0) ∧ Below w.heap.size w w') x' from fun x' hx => ⟨(V.out.after hx).bx.cells.2.2.2.2.2.2.2.2.2.2.2.2.2.2.2.2.1, hx⟩)
  have hHeld0 := HK.out _ (Below.refl _ _)
  have hn0 : w.heap.size ≤ w.heap.size := Nat.le_refl _
  have ZC := Lib.hid (Below.refl w.heap.size w).drew
  go_upto_region 3 with fail
  refine wp_region_held_drew (S := fun w' => w'.cell? ⟨k.g, 16, none⟩ = some (.slice A0 m.length c0) ∧ Below w.heap.size w w') (by kernel_rfl) (hd_drew HK.out (fun _ h => h.2) hHeld0) (fun hHeld => ?_)
  refine tkH 0 (v := ?vo1) rfl ?yo1 ?ro1
  case yo1 => (intro w hSw; (try dsimp only at hSw); go_simp; (try with_reducible rfl))
  (try simp only [Act.put, jA, jB, jC])
  refine tkH 1 (v := ?vo2) rfl ?yo2 ?ro2
  case yo2 => (intro w hSw; (try dsimp only at hSw); go_simp; (try with_reducible rfl))
  (try simp only [Act.put, jA, jB, jC])
  refine tkH 2 (v := ?vo3) rfl ?yo3 ?ro3
  case yo3 => (intro w hSw; (try dsimp only at hSw); go_simp; (try with_reducible rfl))
  (try simp only [Act.put, jA, jB, jC])
  refine tkH 3 (v := ?vo4) rfl ?yo4 ?ro4
  case yo4 => (intro w hSw; (try dsimp only at hSw); go_simp; (try with_reducible rfl))
  (try simp only [Act.put, jA, jB, jC])
  refine tkH 4 (v := ?vo5) rfl ?yo5 ?ro5
  case yo5 => (intro w hSw; (try dsimp only at hSw); go_simp; (try with_reducible rfl))
  (try simp only [Act.put, jA, jB, jC])
  refine wpAnyH_ready (rs := [5]) (by kernel_rfl) (by simp) ?_
  refine (AllReadyH.cons rfl (fun K hK => ?_) AllReadyH.nil)
  go_simp
  refine (wat_any k ok.ok hl0 hl1 rfl (V.out.after ZC.out).st).mono ?_
  rintro e w1 ⟨rfl, hb⟩
  go_wp2_with fail
  replace ZC := Lib.hid (keep_call (w2 := w) hb ZC.out)
  refine hK.out _ _ (hd_call HK.out (fun _ h => h.2) hb hHeld hn0) (fun hHeld2 => ?_)
  clear hK K hHeld
  have hHeld := hHeld2
  clear hHeld2
  (try simp only [Act.put, jA, jB, jC])
  refine wpAnyH_ready (rs := [6]) (by kernel_rfl) (by simp) ?_
  refine (AllReadyH.cons rfl (fun K hK => ?_) AllReadyH.nil)
  go_simp
  refine (ret_of (load_any A0 m.length c0 m (lkI k.D k.J lk) _ (V.out.after ZC.out).rm.rd rfl ok.hs) (v' := .int .u64 u) (by rw [hval])).mono ?_
  rintro e w2 ⟨rfl, hb⟩
  go_wp2_with fail
  replace ZC := Lib.hid (keep_call (w2 := w) hb ZC.out)
  refine hK.out _ _ (hd_call HK.out (fun _ h => h.2) hb hHeld hn0) (fun hHeld2 => ?_)
  clear hK K hHeld
  have hHeld := hHeld2
  clear hHeld2
  (try simp only [Act.put, jA, jB, jC])
  refine tkH 7 (v := ?vo6) rfl ?yo6 ?ro6
  case yo6 => (intro w hSw; (try dsimp only at hSw); go_simp; (try with_reducible rfl))
  (try simp only [Act.put, jA, jB, jC])
  refine wpAnyH_done (by kernel_rfl) ?_ _
  clear hHeld
  have VV := Lib.hid (V.out.after ZC.out)
  clear b0 b1 b2 b3 b4 b5 b6 b7 b8 b9 b10 b11 b12 b13 b14 b15 b16 b17 b18 b19 fz
  obtain ⟨b0, b1, b2, b3, b4, b5, b6, b7, b8, b9, b10, b11, b12, b13, b14, b15, b16, b17, b18, b19⟩ := VV.out.bx.cells
  have fz2 := VV.out.bx.free
  have hl2 := VV.out.bx.lt
  simp only at b0 b1 b2 b3 b4 b5 b6 b7 b8 b9 b10 b11 b12 b13 b14 b15 b16 b17 b18 b19
  go_wp2_with fail
  refine (wmore_any k u hmo VV.out.st).mono ?_
  rintro _ w3 ⟨rfl, z3⟩
  have ZZ := Lib.hid z3
  have V3 := Lib.hid (VV.out.after z3)
  clear z3 b0 b1 b2 b3 b4 b5 b6 b7 b8 b9 b10 b11 b12 b13 b14 b15 b16 b17 b18 b19 fz2
  obtain ⟨b0, b1, b2, b3, b4, b5, b6, b7, b8, b9, b10, b11, b12, b13, b14, b15, b16, b17, b18, b19⟩ := V3.out.bx.cells
  have fz3 := V3.out.bx.free
  simp only at b0 b1 b2 b3 b4 b5 b6 b7 b8 b9 b10 b11 b12 b13 b14 b15 b16 b17 b18 b19
  go_wp2_with fail
  refine (wgoto_any k 1 V3.out.st).mono ?_
  rintro _ w4 ⟨rfl, W4, Z4⟩
  go_wp2
  go_end0
  exact ⟨rfl, W4, (((Kb.refl _ _).call hg ZC.out).call hg ZZ.out).kd.trans Z4⟩
set_option maxHeartbeats 4000000 in
theorem wlook_odd_any {u : Int} (hl0 : 0 ≤ x.look) (hl1 : x.look ≤ 1 + 2 * k.W) (he : ¬ x.look % 2 = 0) (hval : at0 m (lkI k.D k.J x.look) = u) (hmo : (if x.look = 1 then (u != x.f.val) else decide (0 < far u x.f.val)) = false) (hla : ¬ x.look = 1 + 2 * k.W) (ok : Wok k x m) (h : Wst k x m [] w) : Calls Tryz.prog 39 #[.pointer (some ⟨k.g, 0, none⟩)] w (Wrt k { x with look := x.look + 1 } m [] w) := by
  have hW := ok.lw
  obtain ⟨A0, c0, SA0, cs0, E0, ce0, V0⟩ := h
  have V := Lib.hid V0
  have hg := V0.bx.lt
  obtain ⟨b0, b1, b2, b3, b4, b5, b6, b7, b8, b9, b10, b11, b12, b13, b14, b15, b16, b17, b18, b19⟩ := V0.bx.cells
  have fz := V0.bx.free
  clear V0
  obtain ⟨p, s, ⟨xo, xp, xq, xv, xx, xy, xr⟩, sp, lk⟩ := x
  simp only at b0 b1 b2 b3 b4 b5 b6 b7 b8 b9 b10 b11 b12 b13 b14 b15 b16 b17 b18 b19
  have qa : wrap64 (2 * k.W) = 2 * k.W := by unfold wrap64; omega
  have qb : wrap64 (2 + 2 * k.W) = 2 + 2 * k.W := by unfold wrap64; omega
  simp only at hl0 hl1 he hval hmo hla
  have HB := Lib.hid (show (decide (0 ≤ lk) && decide (lk < 2 + 2 * k.W)) = true by simp; omega)
  have q3 : lk.tmod 2 = 1 := by rw [Int.tmod_eq_emod_of_nonneg (by omega)]; omega
  have q5 : wrap64 (lk + 1) = lk + 1 := by unfold wrap64; omega
  have q6 : (lk + 1 == 2 + 2 * k.W) = false := by simp; omega
  clear hla
  go_enter Tryz.func39, Tryz.ntmps39
  go_wp2_with fail
  refine (Gives.of (wbelow_any lk (2 + 2 * k.W) _) (v' := .bool true) (by rw [HB.out])).mono ?_
  rintro _ wz ⟨rfl, ez⟩
  rw [ez]
  clear ez wz
  have HK := Lib.hid (show ∀ x', Below w.heap.size w x' → (fun w' => w'.cell? ⟨k.g, 16, none⟩ = some (.slice A0 m.length c0) ∧ Below w.heap.size w w') x' from fun x' hx => ⟨(V.out.after hx).bx.cells.2.2.2.2.2.2.2.2.2.2.2.2.2.2.2.2.1, hx⟩)
  have hHeld0 := HK.out _ (Below.refl _ _)
  have hn0 : w.heap.size ≤ w.heap.size := Nat.le_refl _
  have ZC := Lib.hid (Below.refl w.heap.size w).drew
  go_upto_region 3 with fail
  refine wp_region_held_drew (S := fun w' => w'.cell? ⟨k.g, 16, none⟩ = some (.slice A0 m.length c0) ∧ Below w.heap.size w w') (by kernel_rfl) (hd_drew HK.out (fun _ h => h.2) hHeld0) (fun hHeld => ?_)
  refine tkH 0 (v := ?vo1) rfl ?yo1 ?ro1
  case yo1 => (intro w hSw; (try dsimp only at hSw); go_simp; (try with_reducible rfl))
  (try simp only [Act.put, jA, jB, jC])
  refine tkH 1 (v := ?vo2) rfl ?yo2 ?ro2
  case yo2 => (intro w hSw; (try dsimp only at hSw); go_simp; (try with_reducible rfl))
  (try simp only [Act.put, jA, jB, jC])
  refine tkH 2 (v := ?vo3) rfl ?yo3 ?ro3
  case yo3 => (intro w hSw; (try dsimp only at hSw); go_simp; (try with_reducible rfl))
  (try simp only [Act.put, jA, jB, jC])
  refine tkH 3 (v := ?vo4) rfl ?yo4 ?ro4
  case yo4 => (intro w hSw; (try dsimp only at hSw); go_simp; (try with_reducible rfl))
  (try simp only [Act.put, jA, jB, jC])
  refine tkH 4 (v := ?vo5) rfl ?yo5 ?ro5
  case yo5 => (intro w hSw; (try dsimp only at hSw); go_simp; (try with_reducible rfl))
  (try simp only [Act.put, jA, jB, jC])
  refine wpAnyH_ready (rs := [5]) (by kernel_rfl) (by simp) ?_
  refine (AllReadyH.cons rfl (fun K hK => ?_) AllReadyH.nil)
  go_simp
  refine (wat_any k ok.ok hl0 hl1 rfl (V.out.after ZC.out).st).mono ?_
  rintro e w1 ⟨rfl, hb⟩
  go_wp2_with fail
  replace ZC := Lib.hid (keep_call (w2 := w) hb ZC.out)
  refine hK.out _ _ (hd_call HK.out (fun _ h => h.2) hb hHeld hn0) (fun hHeld2 => ?_)
  clear hK K hHeld
  have hHeld := hHeld2
  clear hHeld2
  (try simp only [Act.put, jA, jB, jC])
  refine wpAnyH_ready (rs := [6]) (by kernel_rfl) (by simp) ?_
  refine (AllReadyH.cons rfl (fun K hK => ?_) AllReadyH.nil)
  go_simp
  refine (ret_of (load_any A0 m.length c0 m (lkI k.D k.J lk) _ (V.out.after ZC.out).rm.rd rfl ok.hs) (v' := .int .u64 u) (by rw [hval])).mono ?_
  rintro e w2 ⟨rfl, hb⟩
  go_wp2_with fail
  replace ZC := Lib.hid (keep_call (w2 := w) hb ZC.out)
  refine hK.out _ _ (hd_call HK.out (fun _ h => h.2) hb hHeld hn0) (fun hHeld2 => ?_)
  clear hK K hHeld
  have hHeld := hHeld2
  clear hHeld2
  (try simp only [Act.put, jA, jB, jC])
  refine tkH 7 (v := ?vo6) rfl ?yo6 ?ro6
  case yo6 => (intro w hSw; (try dsimp only at hSw); go_simp; (try with_reducible rfl))
  (try simp only [Act.put, jA, jB, jC])
  refine wpAnyH_done (by kernel_rfl) ?_ _
  clear hHeld
  have VV := Lib.hid (V.out.after ZC.out)
  clear b0 b1 b2 b3 b4 b5 b6 b7 b8 b9 b10 b11 b12 b13 b14 b15 b16 b17 b18 b19 fz
  obtain ⟨b0, b1, b2, b3, b4, b5, b6, b7, b8, b9, b10, b11, b12, b13, b14, b15, b16, b17, b18, b19⟩ := VV.out.bx.cells
  have fz2 := VV.out.bx.free
  have hl2 := VV.out.bx.lt
  simp only at b0 b1 b2 b3 b4 b5 b6 b7 b8 b9 b10 b11 b12 b13 b14 b15 b16 b17 b18 b19
  go_wp2_with fail
  refine (wmore_any k u hmo VV.out.st).mono ?_
  rintro _ w3 ⟨rfl, z3⟩
  have ZZ := Lib.hid z3
  have V3 := Lib.hid (VV.out.after z3)
  clear z3 b0 b1 b2 b3 b4 b5 b6 b7 b8 b9 b10 b11 b12 b13 b14 b15 b16 b17 b18 b19 fz2
  obtain ⟨b0, b1, b2, b3, b4, b5, b6, b7, b8, b9, b10, b11, b12, b13, b14, b15, b16, b17, b18, b19⟩ := V3.out.bx.cells
  have fz3 := V3.out.bx.free
  simp only at b0 b1 b2 b3 b4 b5 b6 b7 b8 b9 b10 b11 b12 b13 b14 b15 b16 b17 b18 b19
  go_wp2
  go_end0
  exact ⟨rfl, (V3.out.setLk (lk + 1)).st, ((((Kb.refl _ _).call hg ZC.out).call hg ZZ.out).set _ _).kd⟩
set_option maxHeartbeats 4000000 in
theorem wlook_last_any {u : Int} (hl0 : 0 ≤ x.look) (hl1 : x.look ≤ 1 + 2 * k.W) (he : ¬ x.look % 2 = 0) (hval : at0 m (lkI k.D k.J x.look) = u) (hmo : (if x.look = 1 then (u != x.f.val) else decide (0 < far u x.f.val)) = false) (hla : x.look = 1 + 2 * k.W) (ok : Wok k x m) (h : Wst k x m [] w) : Calls Tryz.prog 39 #[.pointer (some ⟨k.g, 0, none⟩)] w (Wrt k { x with pc := 8, f := { x.f with val := 0 }, look := 0 } m [] w) := by
  have hW := ok.lw
  obtain ⟨A0, c0, SA0, cs0, E0, ce0, V0⟩ := h
  have V := Lib.hid V0
  have hg := V0.bx.lt
  obtain ⟨b0, b1, b2, b3, b4, b5, b6, b7, b8, b9, b10, b11, b12, b13, b14, b15, b16, b17, b18, b19⟩ := V0.bx.cells
  have fz := V0.bx.free
  clear V0
  obtain ⟨p, s, ⟨xo, xp, xq, xv, xx, xy, xr⟩, sp, lk⟩ := x
  simp only at b0 b1 b2 b3 b4 b5 b6 b7 b8 b9 b10 b11 b12 b13 b14 b15 b16 b17 b18 b19
  have qa : wrap64 (2 * k.W) = 2 * k.W := by unfold wrap64; omega
  have qb : wrap64 (2 + 2 * k.W) = 2 + 2 * k.W := by unfold wrap64; omega
  simp only at hl0 hl1 he hval hmo hla
  have HB := Lib.hid (show (decide (0 ≤ lk) && decide (lk < 2 + 2 * k.W)) = true by simp; omega)
  have q3 : lk.tmod 2 = 1 := by rw [Int.tmod_eq_emod_of_nonneg (by omega)]; omega
  have q5 : wrap64 (lk + 1) = lk + 1 := by unfold wrap64; omega
  have q6 : (lk + 1 == 2 + 2 * k.W) = true := by simp; omega
  clear hla
  go_enter Tryz.func39, Tryz.ntmps39
  go_wp2_with fail
  refine (Gives.of (wbelow_any lk (2 + 2 * k.W) _) (v' := .bool true) (by rw [HB.out])).mono ?_
  rintro _ wz ⟨rfl, ez⟩
  rw [ez]
  clear ez wz
  have HK := Lib.hid (show ∀ x', Below w.heap.size w x' → (fun w' => w'.cell? ⟨k.g, 16, none⟩ = some (.slice A0 m.length c0) ∧ Below w.heap.size w w') x' from fun x' hx => ⟨(V.out.after hx).bx.cells.2.2.2.2.2.2.2.2.2.2.2.2.2.2.2.2.1, hx⟩)
  have hHeld0 := HK.out _ (Below.refl _ _)
  have hn0 : w.heap.size ≤ w.heap.size := Nat.le_refl _
  have ZC := Lib.hid (Below.refl w.heap.size w).drew
  go_upto_region 3 with fail
  refine wp_region_held_drew (S := fun w' => w'.cell? ⟨k.g, 16, none⟩ = some (.slice A0 m.length c0) ∧ Below w.heap.size w w') (by kernel_rfl) (hd_drew HK.out (fun _ h => h.2) hHeld0) (fun hHeld => ?_)
  refine tkH 0 (v := ?vo1) rfl ?yo1 ?ro1
  case yo1 => (intro w hSw; (try dsimp only at hSw); go_simp; (try with_reducible rfl))
  (try simp only [Act.put, jA, jB, jC])
  refine tkH 1 (v := ?vo2) rfl ?yo2 ?ro2
  case yo2 => (intro w hSw; (try dsimp only at hSw); go_simp; (try with_reducible rfl))
  (try simp only [Act.put, jA, jB, jC])
  refine tkH 2 (v := ?vo3) rfl ?yo3 ?ro3
  case yo3 => (intro w hSw; (try dsimp only at hSw); go_simp; (try with_reducible rfl))
  (try simp only [Act.put, jA, jB, jC])
  refine tkH 3 (v := ?vo4) rfl ?yo4 ?ro4
  case yo4 => (intro w hSw; (try dsimp only at hSw); go_simp; (try with_reducible rfl))
  (try simp only [Act.put, jA, jB, jC])
  refine tkH 4 (v := ?vo5) rfl ?yo5 ?ro5
  case yo5 => (intro w hSw; (try dsimp only at hSw); go_simp; (try with_reducible rfl))
  (try simp only [Act.put, jA, jB, jC])
  refine wpAnyH_ready (rs := [5]) (by kernel_rfl) (by simp) ?_
  refine (AllReadyH.cons rfl (fun K hK => ?_) AllReadyH.nil)
  go_simp
  refine (wat_any k ok.ok hl0 hl1 rfl (V.out.after ZC.out).st).mono ?_
  rintro e w1 ⟨rfl, hb⟩
  go_wp2_with fail
  replace ZC := Lib.hid (keep_call (w2 := w) hb ZC.out)
  refine hK.out _ _ (hd_call HK.out (fun _ h => h.2) hb hHeld hn0) (fun hHeld2 => ?_)
  clear hK K hHeld
  have hHeld := hHeld2
  clear hHeld2
  (try simp only [Act.put, jA, jB, jC])
  refine wpAnyH_ready (rs := [6]) (by kernel_rfl) (by simp) ?_
  refine (AllReadyH.cons rfl (fun K hK => ?_) AllReadyH.nil)
  go_simp
  refine (ret_of (load_any A0 m.length c0 m (lkI k.D k.J lk) _ (V.out.after ZC.out).rm.rd rfl ok.hs) (v' := .int .u64 u) (by rw [hval])).mono ?_
  rintro e w2 ⟨rfl, hb⟩
  go_wp2_with fail
  replace ZC := Lib.hid (keep_call (w2 := w) hb ZC.out)
  refine hK.out _ _ (hd_call HK.out (fun _ h => h.2) hb hHeld hn0) (fun hHeld2 => ?_)
  clear hK K hHeld
  have hHeld := hHeld2
  clear hHeld2
  (try simp only [Act.put, jA, jB, jC])
  refine tkH 7 (v := ?vo6) rfl ?yo6 ?ro6
  case yo6 => (intro w hSw; (try dsimp only at hSw); go_simp; (try with_reducible rfl))
  (try simp only [Act.put, jA, jB, jC])
  refine wpAnyH_done (by kernel_rfl) ?_ _
  clear hHeld
  have VV := Lib.hid (V.out.after ZC.out)
  clear b0 b1 b2 b3 b4 b5 b6 b7 b8 b9 b10 b11 b12 b13 b14 b15 b16 b17 b18 b19 fz
  obtain ⟨b0, b1, b2, b3, b4, b5, b6, b7, b8, b9, b10, b11, b12, b13, b14, b15, b16, b17, b18, b19⟩ := VV.out.bx.cells
  have fz2 := VV.out.bx.free
  have hl2 := VV.out.bx.lt
  simp only at b0 b1 b2 b3 b4 b5 b6 b7 b8 b9 b10 b11 b12 b13 b14 b15 b16 b17 b18 b19
  go_wp2_with fail
  refine (wmore_any k u hmo VV.out.st).mono ?_
  rintro _ w3 ⟨rfl, z3⟩
  have ZZ := Lib.hid z3
  have V3 := Lib.hid (VV.out.after z3)
  clear z3 b0 b1 b2 b3 b4 b5 b6 b7 b8 b9 b10 b11 b12 b13 b14 b15 b16 b17 b18 b19 fz2
  obtain ⟨b0, b1, b2, b3, b4, b5, b6, b7, b8, b9, b10, b11, b12, b13, b14, b15, b16, b17, b18, b19⟩ := V3.out.bx.cells
  have fz3 := V3.out.bx.free
  simp only at b0 b1 b2 b3 b4 b5 b6 b7 b8 b9 b10 b11 b12 b13 b14 b15 b16 b17 b18 b19
  go_wp2_with fail
  refine (wstop_any k (V3.out.setLk (lk + 1)).st).mono ?_
  rintro _ w4 ⟨rfl, W4, Z4⟩
  go_wp2
  go_end0
  exact ⟨rfl, W4, ((((Kb.refl _ _).call hg ZC.out).call hg ZZ.out).set _ _).kd.trans Z4⟩
end
end Go.Proofs.YtlpkccpijloidaaGreat
