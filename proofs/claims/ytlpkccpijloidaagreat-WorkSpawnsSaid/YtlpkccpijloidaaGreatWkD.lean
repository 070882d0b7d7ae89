/- A step of the call that a worker has at hand (layer 18). -/
import Derived.Test.YtlpkccpijloidaaGreatWkC
import Derived.Deep.CutRange
import Derived.Deep.DeepCutAuto
namespace Go.Proofs.YtlpkccpijloidaaGreat
set_option linter.unusedSimpArgs false
set_option maxRecDepth 100000
open Go.RowKit Go.Deep
section
variable (k : Wc) {x : WkS} {m : List Int} {l : List Evn} {w : World}
set_option maxHeartbeats 4000000 in
theorem wends_0 (ho : x.f.op = 0) {m' : List Int} {f' : Fr} {b : Bool} (he : callS k.W k.D k.J k.S m x.f = (m', f')) (hq : (f'.res != 0) = b) (hs : m.length ≤ 500) (hu : UM m) (hf : UF x.f) (h : Wst k x m l w) : Calls Tryz.prog 58 #[.pointer (some ⟨k.g, 0, none⟩)] w fun e w' => e = .returned (.bool b) ∧ Wst k { x with f := f' } m' l w' ∧ Kd k.g w w' := by
  have hlen := callS_len k.W k.D k.J k.S m x.f
  rw [he] at hlen
  obtain ⟨A, c, SA, cs, E, ce, h⟩ := h
  have H := Lib.hid h
  have HE0 := Lib.hid he
  have HQ := Lib.hid hq
  have HS := Lib.hid hs
  have HU := Lib.hid hu
  have HF := Lib.hid hf
  have HL := Lib.hid (show m'.length = m.length from hlen)
  clear he hq hs hu hf hlen
  have hg := h.bx.lt
  obtain ⟨a0, a1, a2, a3, a4, a5, a6, a7, a8, a9, a10, a11, a12, a13, a14, a15, a16, a17, a18, a19⟩ := h.bx.cells
  have fz := h.bx.free
  clear h
  obtain ⟨n₀, n₁, g, W, D, J, S, me, d, AT, T, ct⟩ := k
  obtain ⟨pc, stk, ⟨o, p, q, v, fx, y, r⟩, sp, lk⟩ := x
  simp only at ho
  simp only at a0 a1 a2 a3 a4 a5 a6 a7 a8 a9 a10 a11 a12 a13 a14 a15 a16 a17 a18 a19 fz hg ⊢
  have ZC := Lib.hid (Below.refl w.heap.size w).drew
  have HK := Lib.hid (show ∀ x', Kw g w x' → (fun w' => w'.cell? ⟨g, 11, none⟩ = some (.int .i64 W) ∧ w'.cell? ⟨g, 12, none⟩ = some (.int .i64 D) ∧ w'.cell? ⟨g, 13, none⟩ = some (.int .i64 J) ∧ w'.cell? ⟨g, 14, none⟩ = some (.int .i64 S) ∧ w'.cell? ⟨g, 15, none⟩ = some (.slice AT T.length ct) ∧ w'.cell? ⟨g, 17, none⟩ = some (.int .i64 me) ∧ w'.cell? ⟨g, 18, none⟩ = some (.int .u64 d) ∧ Kw g w w') x' from fun x' hx =>
    ⟨(hx.cells 11 (by decide) (by decide) (by decide)).trans a11, (hx.cells 12 (by decide) (by decide) (by decide)).trans a12, (hx.cells 13 (by decide) (by decide) (by decide)).trans a13, (hx.cells 14 (by decide) (by decide) (by decide)).trans a14, (hx.cells 15 (by decide) (by decide) (by decide)).trans a15, (hx.cells 17 (by decide) (by decide) (by decide)).trans a17, (hx.cells 18 (by decide) (by decide) (by decide)).trans a18, hx⟩)
  have hHeld0 := HK.out _ (Kw.refl g w)
  subst ho
  have HE := Lib.hid (show dqS W D J S m ⟨0, p, q, v, fx, y, r⟩ = (m', f') by rw [← HE0.out]; unfold callS; simp)
  clear HE0
  go_enter Tryz.func58, Tryz.ntmps58
  go_upto_region 10 with fail
  refine wp_region_held_drew (S := fun w' => w'.cell? ⟨g, 11, none⟩ = some (.int .i64 W) ∧ w'.cell? ⟨g, 12, none⟩ = some (.int .i64 D) ∧ w'.cell? ⟨g, 13, none⟩ = some (.int .i64 J) ∧ w'.cell? ⟨g, 14, none⟩ = some (.int .i64 S) ∧ w'.cell? ⟨g, 15, none⟩ = some (.slice AT T.length ct) ∧ w'.cell? ⟨g, 17, none⟩ = some (.int .i64 me) ∧ w'.cell? ⟨g, 18, none⟩ = some (.int .u64 d) ∧ Kw g w w') (by kernel_rfl) (kw_drew HK.out (fun _ h => h.2.2.2.2.2.2.2) hHeld0) (fun hHeld => ?_)
  refine tkH 0 (v := ?vc1) rfl ?yc1 ?rc1
  case yc1 => (intro w hSw; (try dsimp only at hSw); go_simp; (try with_reducible rfl))
  (try simp only [Act.put, jA, jB, jC])
  refine tkH 1 (v := ?vc2) rfl ?yc2 ?rc2
  case yc2 => (intro w hSw; (try dsimp only at hSw); go_simp; (try with_reducible rfl))
  (try simp only [Act.put, jA, jB, jC])
  refine tkH 2 (v := ?vc3) rfl ?yc3 ?rc3
  case yc3 => (intro w hSw; (try dsimp only at hSw); go_simp; (try with_reducible rfl))
  (try simp only [Act.put, jA, jB, jC])
  refine tkH 3 (v := ?vc4) rfl ?yc4 ?rc4
  case yc4 => (intro w hSw; (try dsimp only at hSw); go_simp; (try with_reducible rfl))
  (try simp only [Act.put, jA, jB, jC])
  refine tkH 4 (v := ?vc5) rfl ?yc5 ?rc5
  case yc5 => (intro w hSw; (try dsimp only at hSw); go_simp; (try with_reducible rfl))
  (try simp only [Act.put, jA, jB, jC])
  refine tkH 5 (v := ?vc6) rfl ?yc6 ?rc6
  case yc6 => (intro w hSw; (try dsimp only at hSw); go_simp; (try with_reducible rfl))
  (try simp only [Act.put, jA, jB, jC])
  refine tkH 6 (v := ?vc7) rfl ?yc7 ?rc7
  case yc7 => (intro w hSw; (try dsimp only at hSw); go_simp; (try with_reducible rfl))
  (try simp only [Act.put, jA, jB, jC])
  refine tkH 7 (v := ?vc8) rfl ?yc8 ?rc8
  case yc8 => (intro w hSw; (try dsimp only at hSw); go_simp; (try with_reducible rfl))
  (try simp only [Act.put, jA, jB, jC])
  refine tkH 8 (v := ?vc9) rfl ?yc9 ?rc9
  case yc9 => (intro w hSw; (try dsimp only at hSw); go_simp; (try with_reducible rfl))
  (try simp only [Act.put, jA, jB, jC])
  refine tkH 9 (v := ?vc10) rfl ?yc10 ?rc10
  case yc10 => (intro w hSw; (try dsimp only at hSw); go_simp; (try with_reducible rfl))
  (try simp only [Act.put, jA, jB, jC])
  refine tkH 11 (v := ?vc11) rfl ?yc11 ?rc11
  case yc11 => (intro w hSw; (try dsimp only at hSw); go_simp; (try with_reducible rfl))
  (try simp only [Act.put, jA, jB, jC])
  refine tkH 12 (v := ?vc12) rfl ?yc12 ?rc12
  case yc12 => (intro w hSw; (try dsimp only at hSw); go_simp; (try with_reducible rfl))
  (try simp only [Act.put, jA, jB, jC])
  refine tkH 13 (v := ?vc13) rfl ?yc13 ?rc13
  case yc13 => (intro w hSw; (try dsimp only at hSw); go_simp; (try with_reducible rfl))
  (try simp only [Act.put, jA, jB, jC])
  refine tkH 14 (v := ?vc14) rfl ?yc14 ?rc14
  case yc14 => (intro w hSw; (try dsimp only at hSw); go_simp; (try with_reducible rfl))
  (try simp only [Act.put, jA, jB, jC])
  refine wpAnyH_ready (rs := [10, 15]) (by kernel_rfl) (by simp) ?_
  refine (AllReadyH.cons rfl (fun K hK => ?_) (AllReadyH.cons rfl (fun K hK => ?_) AllReadyH.nil))
  · go_simp
    refine hK.out _ _ (hHeld) (fun hHeld2 => ?_)
    clear hK K hHeld
    have hHeld := hHeld2
    clear hHeld2
    (try simp only [Act.put, jA, jB, jC])
    refine wpAnyH_ready (rs := [15]) (by kernel_rfl) (by simp) ?_
    refine (AllReadyH.cons rfl (fun K hK => ?_) AllReadyH.nil)
    go_simp
    refine hK.out _ _ (hHeld) (fun hHeld2 => ?_)
    clear hK K hHeld
    have hHeld := hHeld2
    clear hHeld2
    (try simp only [Act.put, jA, jB, jC])
    refine wpAnyH_ready (rs := [16]) (by kernel_rfl) (by simp) ?_
    refine (AllReadyH.cons rfl (fun K hK => ?_) AllReadyH.nil)
    go_simp
    refine (dstep_n (c := c) (H.out.after ZC.out).rm.rd rfl HS.out HU.out HF.out HE.out).mono ?_
    rintro e w1 ⟨A1, c1, rfl, hr, hb⟩
    go_wp2_with fail
    have HR := Lib.hid (show Rx 0 g w1 A1 m' from hr.rx (Nat.zero_le _) (.inl (Nat.lt_of_lt_of_le hg ZC.out.size)))
    have HA1 := Lib.hid (show Apart E A1 m'.length from apart_new (H.out.after ZC.out).re (Nat.le_refl _) (fun hp a ha => by obtain ⟨ad, e, h1, _⟩ := hr hp; rw [ha] at e; injection e with e; subst e; exact h1))
    replace ZC := Lib.hid (keep_call (w2 := w) hb ZC.out)
    have e := (H.out.after ZC.out).bx; obtain ⟨b0, b1, b2, b3, b4, b5, b6, b7, b8, b9, b10, b11, b12, b13, b14, b15, b16, b17, b18, b19⟩ := e.cells; have fz := e.free; simp only at b0 b1 b2 b3 b4 b5 b6 b7 b8 b9 b10 b11 b12 b13 b14 b15 b16 b17 b18 b19; clear e
    clear hr
    refine hK.out _ _ (kw_call HK.out (fun _ h => h.2.2.2.2.2.2.2) hg hb hHeld) (fun hHeld2 => ?_)
    clear hK K hHeld
    have hHeld := hHeld2
    clear hHeld2
    (try simp only [Act.put, jA, jB, jC])
    refine tkH 17 (v := ?vc15) rfl ?yc15 ?rc15
    case yc15 => (intro w hSw; (try dsimp only at hSw); go_simp; (try with_reducible rfl))
    (try simp only [Act.put, jA, jB, jC])
    refine tkH 18 (v := ?vc16) rfl ?yc16 ?rc16
    case yc16 => (intro w hSw; (try dsimp only at hSw); go_simp; (try with_reducible rfl))
    (try simp only [Act.put, jA, jB, jC])
    refine tkH 19 (v := ?vc17) rfl ?yc17 ?rc17
    case yc17 => (intro w hSw; (try dsimp only at hSw); go_simp; (try with_reducible rfl))
    (try simp only [Act.put, jA, jB, jC])
    refine tkH 20 (v := ?vc18) rfl ?yc18 ?rc18
    case yc18 => (intro w hSw; (try dsimp only at hSw); go_simp; (try with_reducible rfl))
    (try simp only [Act.put, jA, jB, jC])
    refine tkH 21 (v := ?vc19) rfl ?yc19 ?rc19
    case yc19 => (intro w hSw; (try dsimp only at hSw); go_simp; (try with_reducible rfl))
    (try simp only [Act.put, jA, jB, jC])
    refine wpAnyH_ready (rs := [22]) (by kernel_rfl) (by simp) ?_
    refine (AllReadyH.cons rfl (fun K hK => ?_) AllReadyH.nil)
    go_simp
    refine hK.out _ _ (kw_set HK.out (fun _ h => h.2.2.2.2.2.2.2) 16 (by decide) _ hHeld) (fun hHeld2 => ?_)
    clear hK K hHeld
    have hHeld := hHeld2
    clear hHeld2
    (try simp only [Act.put, jA, jB, jC])
    refine tkH 23 (v := ?vc20) rfl ?yc20 ?rc20
    case yc20 => (intro w hSw; (try dsimp only at hSw); go_simp; (try with_reducible rfl))
    (try simp only [Act.put, jA, jB, jC])
    refine tkH 24 (v := ?vc21) rfl ?yc21 ?rc21
    case yc21 => (intro w hSw; (try dsimp only at hSw); go_simp; (try with_reducible rfl))
    (try simp only [Act.put, jA, jB, jC])
    refine tkH 25 (v := ?vc22) rfl ?yc22 ?rc22
    case yc22 => (intro w hSw; (try dsimp only at hSw); go_simp; (try with_reducible rfl))
    (try simp only [Act.put, jA, jB, jC])
    refine wpAnyH_ready (rs := [26]) (by kernel_rfl) (by simp) ?_
    refine (AllReadyH.cons rfl (fun K hK => ?_) AllReadyH.nil)
    go_simp
    refine hK.out _ _ (kw_pwk HK.out (fun _ h => h.2.2.2.2.2.2.2) f' hHeld) (fun hHeld2 => ?_)
    clear hK K hHeld
    have hHeld := hHeld2
    clear hHeld2
    (try simp only [Act.put, jA, jB, jC])
    refine wpAnyH_done (by kernel_rfl) ?_ _
    clear hHeld
    have W2 := Lib.hid (show Wst _ { ({ pc := pc, stk := stk, f := ⟨0, p, q, v, fx, y, r⟩, spins := sp, look := lk } : WkS) with f := f' } m' l (pwk (w1.setCell ⟨g, 16, none⟩ (.slice A1 m.length c1)) g f') from by have q := ((H.out.after ZC.out).setM (c' := c1) HR.out HA1.out).pwk f'; rw [HL.out] at q; exact q.st)
    have Z2 := Lib.hid (((((Kb.refl _ _).call hg ZC.out).set 16 (.slice A1 m.length c1)).pwk f').kd)
    change Exit.then _ _ _ _ (pwk (w1.setCell ⟨g, 16, none⟩ (.slice A1 m.length c1)) g f')
    generalize pwk (w1.setCell ⟨g, 16, none⟩ (.slice A1 m.length c1)) g f' = w2 at W2 Z2 ⊢
    obtain ⟨A3, c3, SA3, cs3, E3, ce3, W3⟩ := W2.out
    have W4 := Lib.hid W3
    have C3 := W3.bx.cells
    have fz3 := W3.bx.free
    have hl3 := W3.bx.lt
    clear W3 b0 b1 b2 b3 b4 b5 b6 b7 b8 b9 b10 b11 b12 b13 b14 b15 b16 b17 b18 b19 fz
    obtain ⟨b0, b1, b2, b3, b4, b5, b6, b7, b8, b9, b10, b11, b12, b13, b14, b15, b16, b17, b18, b19⟩ := C3
    obtain ⟨fo, fp, fq, fv', ffx, fy, fr⟩ := f'
    simp only at b0 b1 b2 b3 b4 b5 b6 b7 b8 b9 b10 b11 b12 b13 b14 b15 b16 b17 b18 b19 hl3 fz3
    go_wp2_with fail
    refine (Tells.of (over_any ⟨fo, fp, fq, fv', ffx, fy, fr⟩ _) (v' := .bool b) (by rw [← HQ.out])).mono ?_
    rintro _ w3 ⟨rfl, z3⟩
    have Z3 := Lib.hid z3
    clear z3
    go_wp2
    go_ret
    exact ⟨rfl, (W4.out.after Z3.out).st, Z2.out.trans (((Kb.refl _ _).call hl3 Z3.out).kd)⟩
  · go_simp
    refine hK.out _ _ (hHeld) (fun hHeld2 => ?_)
    clear hK K hHeld
    have hHeld := hHeld2
    clear hHeld2
    (try simp only [Act.put, jA, jB, jC])
    refine wpAnyH_ready (rs := [10]) (by kernel_rfl) (by simp) ?_
    refine (AllReadyH.cons rfl (fun K hK => ?_) AllReadyH.nil)
    go_simp
    refine hK.out _ _ (hHeld) (fun hHeld2 => ?_)
    clear hK K hHeld
    have hHeld := hHeld2
    clear hHeld2
    (try simp only [Act.put, jA, jB, jC])
    refine wpAnyH_ready (rs := [16]) (by kernel_rfl) (by simp) ?_
    refine (AllReadyH.cons rfl (fun K hK => ?_) AllReadyH.nil)
    go_simp
    refine (dstep_n (c := c) (H.out.after ZC.out).rm.rd rfl HS.out HU.out HF.out HE.out).mono ?_
    rintro e w1 ⟨A1, c1, rfl, hr, hb⟩
    go_wp2_with fail
    have HR := Lib.hid (show Rx 0 g w1 A1 m' from hr.rx (Nat.zero_le _) (.inl (Nat.lt_of_lt_of_le hg ZC.out.size)))
    have HA1 := Lib.hid (show Apart E A1 m'.length from apart_new (H.out.after ZC.out).re (Nat.le_refl _) (fun hp a ha => by obtain ⟨ad, e, h1, _⟩ := hr hp; rw [ha] at e; injection e with e; subst e; exact h1))
    replace ZC := Lib.hid (keep_call (w2 := w) hb ZC.out)
    have e := (H.out.after ZC.out).bx; obtain ⟨b0, b1, b2, b3, b4, b5, b6, b7, b8, b9, b10, b11, b12, b13, b14, b15, b16, b17, b18, b19⟩ := e.cells; have fz := e.free; simp only at b0 b1 b2 b3 b4 b5 b6 b7 b8 b9 b10 b11 b12 b13 b14 b15 b16 b17 b18 b19; clear e
    clear hr
    refine hK.out _ _ (kw_call HK.out (fun _ h => h.2.2.2.2.2.2.2) hg hb hHeld) (fun hHeld2 => ?_)
    clear hK K hHeld
    have hHeld := hHeld2
    clear hHeld2
    (try simp only [Act.put, jA, jB, jC])
    refine tkH 17 (v := ?vc23) rfl ?yc23 ?rc23
    case yc23 => (intro w hSw; (try dsimp only at hSw); go_simp; (try with_reducible rfl))
    (try simp only [Act.put, jA, jB, jC])
    refine tkH 18 (v := ?vc24) rfl ?yc24 ?rc24
    case yc24 => (intro w hSw; (try dsimp only at hSw); go_simp; (try with_reducible rfl))
    (try simp only [Act.put, jA, jB, jC])
    refine tkH 19 (v := ?vc25) rfl ?yc25 ?rc25
    case yc25 => (intro w hSw; (try dsimp only at hSw); go_simp; (try with_reducible rfl))
    (try simp only [Act.put, jA, jB, jC])
    refine tkH 20 (v := ?vc26) rfl ?yc26 ?rc26
    case yc26 => (intro w hSw; (try dsimp only at hSw); go_simp; (try with_reducible rfl))
    (try simp only [Act.put, jA, jB, jC])
    refine tkH 21 (v := ?vc27) rfl ?yc27 ?rc27
    case yc27 => (intro w hSw; (try dsimp only at hSw); go_simp; (try with_reducible rfl))
    (try simp only [Act.put, jA, jB, jC])
    refine wpAnyH_ready (rs := [22]) (by kernel_rfl) (by simp) ?_
    refine (AllReadyH.cons rfl (fun K hK => ?_) AllReadyH.nil)
    go_simp
    refine hK.out _ _ (kw_set HK.out (fun _ h => h.2.2.2.2.2.2.2) 16 (by decide) _ hHeld) (fun hHeld2 => ?_)
    clear hK K hHeld
    have hHeld := hHeld2
    clear hHeld2
    (try simp only [Act.put, jA, jB, jC])
    refine tkH 23 (v := ?vc28) rfl ?yc28 ?rc28
    case yc28 => (intro w hSw; (try dsimp only at hSw); go_simp; (try with_reducible rfl))
    (try simp only [Act.put, jA, jB, jC])
    refine tkH 24 (v := ?vc29) rfl ?yc29 ?rc29
    case yc29 => (intro w hSw; (try dsimp only at hSw); go_simp; (try with_reducible rfl))
    (try simp only [Act.put, jA, jB, jC])
    refine tkH 25 (v := ?vc30) rfl ?yc30 ?rc30
    case yc30 => (intro w hSw; (try dsimp only at hSw); go_simp; (try with_reducible rfl))
    (try simp only [Act.put, jA, jB, jC])
    refine wpAnyH_ready (rs := [26]) (by kernel_rfl) (by simp) ?_
    refine (AllReadyH.cons rfl (fun K hK => ?_) AllReadyH.nil)
    go_simp
    refine hK.out _ _ (kw_pwk HK.out (fun _ h => h.2.2.2.2.2.2.2) f' hHeld) (fun hHeld2 => ?_)
    clear hK K hHeld
    have hHeld := hHeld2
    clear hHeld2
    (try simp only [Act.put, jA, jB, jC])
    refine wpAnyH_done (by kernel_rfl) ?_ _
    clear hHeld
    have W2 := Lib.hid (show Wst _ { ({ pc := pc, stk := stk, f := ⟨0, p, q, v, fx, y, r⟩, spins := sp, look := lk } : WkS) with f := f' } m' l (pwk (w1.setCell ⟨g, 16, none⟩ (.slice A1 m.length c1)) g f') from by have q := ((H.out.after ZC.out).setM (c' := c1) HR.out HA1.out).pwk f'; rw [HL.out] at q; exact q.st)
    have Z2 := Lib.hid (((((Kb.refl _ _).call hg ZC.out).set 16 (.slice A1 m.length c1)).pwk f').kd)
    change Exit.then _ _ _ _ (pwk (w1.setCell ⟨g, 16, none⟩ (.slice A1 m.length c1)) g f')
    generalize pwk (w1.setCell ⟨g, 16, none⟩ (.slice A1 m.length c1)) g f' = w2 at W2 Z2 ⊢
    obtain ⟨A3, c3, SA3, cs3, E3, ce3, W3⟩ := W2.out
    have W4 := Lib.hid W3
    have C3 := W3.bx.cells
    have fz3 := W3.bx.free
    have hl3 := W3.bx.lt
    clear W3 b0 b1 b2 b3 b4 b5 b6 b7 b8 b9 b10 b11 b12 b13 b14 b15 b16 b17 b18 b19 fz
    obtain ⟨b0, b1, b2, b3, b4, b5, b6, b7, b8, b9, b10, b11, b12, b13, b14, b15, b16, b17, b18, b19⟩ := C3
    obtain ⟨fo, fp, fq, fv', ffx, fy, fr⟩ := f'
    simp only at b0 b1 b2 b3 b4 b5 b6 b7 b8 b9 b10 b11 b12 b13 b14 b15 b16 b17 b18 b19 hl3 fz3
    go_wp2_with fail
    refine (Tells.of (over_any ⟨fo, fp, fq, fv', ffx, fy, fr⟩ _) (v' := .bool b) (by rw [← HQ.out])).mono ?_
    rintro _ w3 ⟨rfl, z3⟩
    have Z3 := Lib.hid z3
    clear z3
    go_wp2
    go_ret
    exact ⟨rfl, (W4.out.after Z3.out).st, Z2.out.trans (((Kb.refl _ _).call hl3 Z3.out).kd)⟩
set_option maxHeartbeats 4000000 in
theorem wends_1 (ho : x.f.op = 1) {m' : List Int} {f' : Fr} {b : Bool} (he : callS k.W k.D k.J k.S m x.f = (m', f')) (hq : (f'.res != 0) = b) (hs : m.length ≤ 500) (hu : UM m) (hf : UF x.f) (h : Wst k x m l w) : Calls Tryz.prog 58 #[.pointer (some ⟨k.g, 0, none⟩)] w fun e w' => e = .returned (.bool b) ∧ Wst k { x with f := f' } m' l w' ∧ Kd k.g w w' := by
  have hlen := callS_len k.W k.D k.J k.S m x.f
  rw [he] at hlen
  obtain ⟨A, c, SA, cs, E, ce, h⟩ := h
  have H := Lib.hid h
  have HE0 := Lib.hid he
  have HQ := Lib.hid hq
  have HS := Lib.hid hs
  have HU := Lib.hid hu
  have HF := Lib.hid hf
  have HL := Lib.hid (show m'.length = m.length from hlen)
  clear he hq hs hu hf hlen
  have hg := h.bx.lt
  obtain ⟨a0, a1, a2, a3, a4, a5, a6, a7, a8, a9, a10, a11, a12, a13, a14, a15, a16, a17, a18, a19⟩ := h.bx.cells
  have fz := h.bx.free
  clear h
  obtain ⟨n₀, n₁, g, W, D, J, S, me, d, AT, T, ct⟩ := k
  obtain ⟨pc, stk, ⟨o, p, q, v, fx, y, r⟩, sp, lk⟩ := x
  simp only at ho
  simp only at a0 a1 a2 a3 a4 a5 a6 a7 a8 a9 a10 a11 a12 a13 a14 a15 a16 a17 a18 a19 fz hg ⊢
  have ZC := Lib.hid (Below.refl w.heap.size w).drew
  have HK := Lib.hid (show ∀ x', Kw g w x' → (fun w' => w'.cell? ⟨g, 11, none⟩ = some (.int .i64 W) ∧ w'.cell? ⟨g, 12, none⟩ = some (.int .i64 D) ∧ w'.cell? ⟨g, 13, none⟩ = some (.int .i64 J) ∧ w'.cell? ⟨g, 14, none⟩ = some (.int .i64 S) ∧ w'.cell? ⟨g, 15, none⟩ = some (.slice AT T.length ct) ∧ w'.cell? ⟨g, 17, none⟩ = some (.int .i64 me) ∧ w'.cell? ⟨g, 18, none⟩ = some (.int .u64 d) ∧ Kw g w w') x' from fun x' hx =>
    ⟨(hx.cells 11 (by decide) (by decide) (by decide)).trans a11, (hx.cells 12 (by decide) (by decide) (by decide)).trans a12, (hx.cells 13 (by decide) (by decide) (by decide)).trans a13, (hx.cells 14 (by decide) (by decide) (by decide)).trans a14, (hx.cells 15 (by decide) (by decide) (by decide)).trans a15, (hx.cells 17 (by decide) (by decide) (by decide)).trans a17, (hx.cells 18 (by decide) (by decide) (by decide)).trans a18, hx⟩)
  have hHeld0 := HK.out _ (Kw.refl g w)
  subst ho
  have HE := Lib.hid (show dqS W D J S m ⟨1, p, q, v, fx, y, r⟩ = (m', f') by rw [← HE0.out]; unfold callS; simp)
  clear HE0
  go_enter Tryz.func58, Tryz.ntmps58
  go_upto_region 10 with fail
  refine wp_region_held_drew (S := fun w' => w'.cell? ⟨g, 11, none⟩ = some (.int .i64 W) ∧ w'.cell? ⟨g, 12, none⟩ = some (.int .i64 D) ∧ w'.cell? ⟨g, 13, none⟩ = some (.int .i64 J) ∧ w'.cell? ⟨g, 14, none⟩ = some (.int .i64 S) ∧ w'.cell? ⟨g, 15, none⟩ = some (.slice AT T.length ct) ∧ w'.cell? ⟨g, 17, none⟩ = some (.int .i64 me) ∧ w'.cell? ⟨g, 18, none⟩ = some (.int .u64 d) ∧ Kw g w w') (by kernel_rfl) (kw_drew HK.out (fun _ h => h.2.2.2.2.2.2.2) hHeld0) (fun hHeld => ?_)
  refine tkH 0 (v := ?vc1) rfl ?yc1 ?rc1
  case yc1 => (intro w hSw; (try dsimp only at hSw); go_simp; (try with_reducible rfl))
  (try simp only [Act.put, jA, jB, jC])
  refine tkH 1 (v := ?vc2) rfl ?yc2 ?rc2
  case yc2 => (intro w hSw; (try dsimp only at hSw); go_simp; (try with_reducible rfl))
  (try simp only [Act.put, jA, jB, jC])
  refine tkH 2 (v := ?vc3) rfl ?yc3 ?rc3
  case yc3 => (intro w hSw; (try dsimp only at hSw); go_simp; (try with_reducible rfl))
  (try simp only [Act.put, jA, jB, jC])
  refine tkH 3 (v := ?vc4) rfl ?yc4 ?rc4
  case yc4 => (intro w hSw; (try dsimp only at hSw); go_simp; (try with_reducible rfl))
  (try simp only [Act.put, jA, jB, jC])
  refine tkH 4 (v := ?vc5) rfl ?yc5 ?rc5
  case yc5 => (intro w hSw; (try dsimp only at hSw); go_simp; (try with_reducible rfl))
  (try simp only [Act.put, jA, jB, jC])
  refine tkH 5 (v := ?vc6) rfl ?yc6 ?rc6
  case yc6 => (intro w hSw; (try dsimp only at hSw); go_simp; (try with_reducible rfl))
  (try simp only [Act.put, jA, jB, jC])
  refine tkH 6 (v := ?vc7) rfl ?yc7 ?rc7
  case yc7 => (intro w hSw; (try dsimp only at hSw); go_simp; (try with_reducible rfl))
  (try simp only [Act.put, jA, jB, jC])
  refine tkH 7 (v := ?vc8) rfl ?yc8 ?rc8
  case yc8 => (intro w hSw; (try dsimp only at hSw); go_simp; (try with_reducible rfl))
  (try simp only [Act.put, jA, jB, jC])
  refine tkH 8 (v := ?vc9) rfl ?yc9 ?rc9
  case yc9 => (intro w hSw; (try dsimp only at hSw); go_simp; (try with_reducible rfl))
  (try simp only [Act.put, jA, jB, jC])
  refine tkH 9 (v := ?vc10) rfl ?yc10 ?rc10
  case yc10 => (intro w hSw; (try dsimp only at hSw); go_simp; (try with_reducible rfl))
  (try simp only [Act.put, jA, jB, jC])
  refine tkH 11 (v := ?vc11) rfl ?yc11 ?rc11
  case yc11 => (intro w hSw; (try dsimp only at hSw); go_simp; (try with_reducible rfl))
  (try simp only [Act.put, jA, jB, jC])
  refine tkH 12 (v := ?vc12) rfl ?yc12 ?rc12
  case yc12 => (intro w hSw; (try dsimp only at hSw); go_simp; (try with_reducible rfl))
  (try simp only [Act.put, jA, jB, jC])
  refine tkH 13 (v := ?vc13) rfl ?yc13 ?rc13
  case yc13 => (intro w hSw; (try dsimp only at hSw); go_simp; (try with_reducible rfl))
  (try simp only [Act.put, jA, jB, jC])
  refine tkH 14 (v := ?vc14) rfl ?yc14 ?rc14
  case yc14 => (intro w hSw; (try dsimp only at hSw); go_simp; (try with_reducible rfl))
  (try simp only [Act.put, jA, jB, jC])
  refine wpAnyH_ready (rs := [10, 15]) (by kernel_rfl) (by simp) ?_
  refine (AllReadyH.cons rfl (fun K hK => ?_) (AllReadyH.cons rfl (fun K hK => ?_) AllReadyH.nil))
  · go_simp
    refine hK.out _ _ (hHeld) (fun hHeld2 => ?_)
    clear hK K hHeld
    have hHeld := hHeld2
    clear hHeld2
    (try simp only [Act.put, jA, jB, jC])
    refine wpAnyH_ready (rs := [15]) (by kernel_rfl) (by simp) ?_
    refine (AllReadyH.cons rfl (fun K hK => ?_) AllReadyH.nil)
    go_simp
    refine hK.out _ _ (hHeld) (fun hHeld2 => ?_)
    clear hK K hHeld
    have hHeld := hHeld2
    clear hHeld2
    (try simp only [Act.put, jA, jB, jC])
    refine wpAnyH_ready (rs := [16]) (by kernel_rfl) (by simp) ?_
    refine (AllReadyH.cons rfl (fun K hK => ?_) AllReadyH.nil)
    go_simp
    refine (dstep_n (c := c) (H.out.after ZC.out).rm.rd rfl HS.out HU.out HF.out HE.out).mono ?_
    rintro e w1 ⟨A1, c1, rfl, hr, hb⟩
    go_wp2_with fail
    have HR := Lib.hid (show Rx 0 g w1 A1 m' from hr.rx (Nat.zero_le _) (.inl (Nat.lt_of_lt_of_le hg ZC.out.size)))
    have HA1 := Lib.hid (show Apart E A1 m'.length from apart_new (H.out.after ZC.out).re (Nat.le_refl _) (fun hp a ha => by obtain ⟨ad, e, h1, _⟩ := hr hp; rw [ha] at e; injection e with e; subst e; exact h1))
    replace ZC := Lib.hid (keep_call (w2 := w) hb ZC.out)
    have e := (H.out.after ZC.out).bx; obtain ⟨b0, b1, b2, b3, b4, b5, b6, b7, b8, b9, b10, b11, b12, b13, b14, b15, b16, b17, b18, b19⟩ := e.cells; have fz := e.free; simp only at b0 b1 b2 b3 b4 b5 b6 b7 b8 b9 b10 b11 b12 b13 b14 b15 b16 b17 b18 b19; clear e
    clear hr
    refine hK.out _ _ (kw_call HK.out (fun _ h => h.2.2.2.2.2.2.2) hg hb hHeld) (fun hHeld2 => ?_)
    clear hK K hHeld
    have hHeld := hHeld2
    clear hHeld2
    (try simp only [Act.put, jA, jB, jC])
    refine tkH 17 (v := ?vc15) rfl ?yc15 ?rc15
    case yc15 => (intro w hSw; (try dsimp only at hSw); go_simp; (try with_reducible rfl))
    (try simp only [Act.put, jA, jB, jC])
    refine tkH 18 (v := ?vc16) rfl ?yc16 ?rc16
    case yc16 => (intro w hSw; (try dsimp only at hSw); go_simp; (try with_reducible rfl))
    (try simp only [Act.put, jA, jB, jC])
    refine tkH 19 (v := ?vc17) rfl ?yc17 ?rc17
    case yc17 => (intro w hSw; (try dsimp only at hSw); go_simp; (try with_reducible rfl))
    (try simp only [Act.put, jA, jB, jC])
    refine tkH 20 (v := ?vc18) rfl ?yc18 ?rc18
    case yc18 => (intro w hSw; (try dsimp only at hSw); go_simp; (try with_reducible rfl))
    (try simp only [Act.put, jA, jB, jC])
    refine tkH 21 (v := ?vc19) rfl ?yc19 ?rc19
    case yc19 => (intro w hSw; (try dsimp only at hSw); go_simp; (try with_reducible rfl))
    (try simp only [Act.put, jA, jB, jC])
    refine wpAnyH_ready (rs := [22]) (by kernel_rfl) (by simp) ?_
    refine (AllReadyH.cons rfl (fun K hK => ?_) AllReadyH.nil)
    go_simp
    refine hK.out _ _ (kw_set HK.out (fun _ h => h.2.2.2.2.2.2.2) 16 (by decide) _ hHeld) (fun hHeld2 => ?_)
    clear hK K hHeld
    have hHeld := hHeld2
    clear hHeld2
    (try simp only [Act.put, jA, jB, jC])
    refine tkH 23 (v := ?vc20) rfl ?yc20 ?rc20
    case yc20 => (intro w hSw; (try dsimp only at hSw); go_simp; (try with_reducible rfl))
    (try simp only [Act.put, jA, jB, jC])
    refine tkH 24 (v := ?vc21) rfl ?yc21 ?rc21
    case yc21 => (intro w hSw; (try dsimp only at hSw); go_simp; (try with_reducible rfl))
    (try simp only [Act.put, jA, jB, jC])
    refine tkH 25 (v := ?vc22) rfl ?yc22 ?rc22
    case yc22 => (intro w hSw; (try dsimp only at hSw); go_simp; (try with_reducible rfl))
    (try simp only [Act.put, jA, jB, jC])
    refine wpAnyH_ready (rs := [26]) (by kernel_rfl) (by simp) ?_
    refine (AllReadyH.cons rfl (fun K hK => ?_) AllReadyH.nil)
    go_simp
    refine hK.out _ _ (kw_pwk HK.out (fun _ h => h.2.2.2.2.2.2.2) f' hHeld) (fun hHeld2 => ?_)
    clear hK K hHeld
    have hHeld := hHeld2
    clear hHeld2
    (try simp only [Act.put, jA, jB, jC])
    refine wpAnyH_done (by kernel_rfl) ?_ _
    clear hHeld
    have W2 := Lib.hid (show Wst _ { ({ pc := pc, stk := stk, f := ⟨1, p, q, v, fx, y, r⟩, spins := sp, look := lk } : WkS) with f := f' } m' l (pwk (w1.setCell ⟨g, 16, none⟩ (.slice A1 m.length c1)) g f') from by have q := ((H.out.after ZC.out).setM (c' := c1) HR.out HA1.out).pwk f'; rw [HL.out] at q; exact q.st)
    have Z2 := Lib.hid (((((Kb.refl _ _).call hg ZC.out).set 16 (.slice A1 m.length c1)).pwk f').kd)
    change Exit.then _ _ _ _ (pwk (w1.setCell ⟨g, 16, none⟩ (.slice A1 m.length c1)) g f')
    generalize pwk (w1.setCell ⟨g, 16, none⟩ (.slice A1 m.length c1)) g f' = w2 at W2 Z2 ⊢
    obtain ⟨A3, c3, SA3, cs3, E3, ce3, W3⟩ := W2.out
    have W4 := Lib.hid W3
    have C3 := W3.bx.cells
    have fz3 := W3.bx.free
    have hl3 := W3.bx.lt
    clear W3 b0 b1 b2 b3 b4 b5 b6 b7 b8 b9 b10 b11 b12 b13 b14 b15 b16 b17 b18 b19 fz
    obtain ⟨b0, b1, b2, b3, b4, b5, b6, b7, b8, b9, b10, b11, b12, b13, b14, b15, b16, b17, b18, b19⟩ := C3
    obtain ⟨fo, fp, fq, fv', ffx, fy, fr⟩ := f'
    simp only at b0 b1 b2 b3 b4 b5 b6 b7 b8 b9 b10 b11 b12 b13 b14 b15 b16 b17 b18 b19 hl3 fz3
    go_wp2_with fail
    refine (Tells.of (over_any ⟨fo, fp, fq, fv', ffx, fy, fr⟩ _) (v' := .bool b) (by rw [← HQ.out])).mono ?_
    rintro _ w3 ⟨rfl, z3⟩
    have Z3 := Lib.hid z3
    clear z3
    go_wp2
    go_ret
    exact ⟨rfl, (W4.out.after Z3.out).st, Z2.out.trans (((Kb.refl _ _).call hl3 Z3.out).kd)⟩
  · go_simp
    refine hK.out _ _ (hHeld) (fun hHeld2 => ?_)
    clear hK K hHeld
    have hHeld := hHeld2
    clear hHeld2
    (try simp only [Act.put, jA, jB, jC])
    refine wpAnyH_ready (rs := [10]) (by kernel_rfl) (by simp) ?_
    refine (AllReadyH.cons rfl (fun K hK => ?_) AllReadyH.nil)
    go_simp
    refine hK.out _ _ (hHeld) (fun hHeld2 => ?_)
    clear hK K hHeld
    have hHeld := hHeld2
    clear hHeld2
    (try simp only [Act.put, jA, jB, jC])
    refine wpAnyH_ready (rs := [16]) (by kernel_rfl) (by simp) ?_
    refine (AllReadyH.cons rfl (fun K hK => ?_) AllReadyH.nil)
    go_simp
    refine (dstep_n (c := c) (H.out.after ZC.out).rm.rd rfl HS.out HU.out HF.out HE.out).mono ?_
    rintro e w1 ⟨A1, c1, rfl, hr, hb⟩
    go_wp2_with fail
    have HR := Lib.hid (show Rx 0 g w1 A1 m' from hr.rx (Nat.zero_le _) (.inl (Nat.lt_of_lt_of_le hg ZC.out.size)))
    have HA1 := Lib.hid (show Apart E A1 m'.length from apart_new (H.out.after ZC.out).re (Nat.le_refl _) (fun hp a ha => by obtain ⟨ad, e, h1, _⟩ := hr hp; rw [ha] at e; injection e with e; subst e; exact h1))
    replace ZC := Lib.hid (keep_call (w2 := w) hb ZC.out)
    have e := (H.out.after ZC.out).bx; obtain ⟨b0, b1, b2, b3, b4, b5, b6, b7, b8, b9, b10, b11, b12, b13, b14, b15, b16, b17, b18, b19⟩ := e.cells; have fz := e.free; simp only at b0 b1 b2 b3 b4 b5 b6 b7 b8 b9 b10 b11 b12 b13 b14 b15 b16 b17 b18 b19; clear e
    clear hr
    refine hK.out _ _ (kw_call HK.out (fun _ h => h.2.2.2.2.2.2.2) hg hb hHeld) (fun hHeld2 => ?_)
    clear hK K hHeld
    have hHeld := hHeld2
    clear hHeld2
    (try simp only [Act.put, jA, jB, jC])
    refine tkH 17 (v := ?vc23) rfl ?yc23 ?rc23
    case yc23 => (intro w hSw; (try dsimp only at hSw); go_simp; (try with_reducible rfl))
    (try simp only [Act.put, jA, jB, jC])
    refine tkH 18 (v := ?vc24) rfl ?yc24 ?rc24
    case yc24 => (intro w hSw; (try dsimp only at hSw); go_simp; (try with_reducible rfl))
    (try simp only [Act.put, jA, jB, jC])
    refine tkH 19 (v := ?vc25) rfl ?yc25 ?rc25
    case yc25 => (intro w hSw; (try dsimp only at hSw); go_simp; (try with_reducible rfl))
    (try simp only [Act.put, jA, jB, jC])
    refine tkH 20 (v := ?vc26) rfl ?yc26 ?rc26
    case yc26 => (intro w hSw; (try dsimp only at hSw); go_simp; (try with_reducible rfl))
    (try simp only [Act.put, jA, jB, jC])
    refine tkH 21 (v := ?vc27) rfl ?yc27 ?rc27
    case yc27 => (intro w hSw; (try dsimp only at hSw); go_simp; (try with_reducible rfl))
    (try simp only [Act.put, jA, jB, jC])
    refine wpAnyH_ready (rs := [22]) (by kernel_rfl) (by simp) ?_
    refine (AllReadyH.cons rfl (fun K hK => ?_) AllReadyH.nil)
    go_simp
    refine hK.out _ _ (kw_set HK.out (fun _ h => h.2.2.2.2.2.2.2) 16 (by decide) _ hHeld) (fun hHeld2 => ?_)
    clear hK K hHeld
    have hHeld := hHeld2
    clear hHeld2
    (try simp only [Act.put, jA, jB, jC])
    refine tkH 23 (v := ?vc28) rfl ?yc28 ?rc28
    case yc28 => (intro w hSw; (try dsimp only at hSw); go_simp; (try with_reducible rfl))
    (try simp only [Act.put, jA, jB, jC])
    refine tkH 24 (v := ?vc29) rfl ?yc29 ?rc29
    case yc29 => (intro w hSw; (try dsimp only at hSw); go_simp; (try with_reducible rfl))
    (try simp only [Act.put, jA, jB, jC])
    refine tkH 25 (v := ?vc30) rfl ?yc30 ?rc30
    case yc30 => (intro w hSw; (try dsimp only at hSw); go_simp; (try with_reducible rfl))
    (try simp only [Act.put, jA, jB, jC])
    refine wpAnyH_ready (rs := [26]) (by kernel_rfl) (by simp) ?_
    refine (AllReadyH.cons rfl (fun K hK => ?_) AllReadyH.nil)
    go_simp
    refine hK.out _ _ (kw_pwk HK.out (fun _ h => h.2.2.2.2.2.2.2) f' hHeld) (fun hHeld2 => ?_)
    clear hK K hHeld
    have hHeld := hHeld2
    clear hHeld2
    (try simp only [Act.put, jA, jB, jC])
    refine wpAnyH_done (by kernel_rfl) ?_ _
    clear hHeld
    have W2 := Lib.hid (show Wst _ { ({ pc := pc, stk := stk, f := ⟨1, p, q, v, fx, y, r⟩, spins := sp, look := lk } : WkS) with f := f' } m' l (pwk (w1.setCell ⟨g, 16, none⟩ (.slice A1 m.length c1)) g f') from by have q := ((H.out.after ZC.out).setM (c' := c1) HR.out HA1.out).pwk f'; rw [HL.out] at q; exact q.st)
    have Z2 := Lib.hid (((((Kb.refl _ _).call hg ZC.out).set 16 (.slice A1 m.length c1)).pwk f').kd)
    change Exit.then _ _ _ _ (pwk (w1.setCell ⟨g, 16, none⟩ (.slice A1 m.length c1)) g f')
    generalize pwk (w1.setCell ⟨g, 16, none⟩ (.slice A1 m.length c1)) g f' = w2 at W2 Z2 ⊢
    obtain ⟨A3, c3, SA3, cs3, E3, ce3, W3⟩ := W2.out
    have W4 := Lib.hid W3
    have C3 := W3.bx.cells
    have fz3 := W3.bx.free
    have hl3 := W3.bx.lt
    clear W3 b0 b1 b2 b3 b4 b5 b6 b7 b8 b9 b10 b11 b12 b13 b14 b15 b16 b17 b18 b19 fz
    obtain ⟨b0, b1, b2, b3, b4, b5, b6, b7, b8, b9, b10, b11, b12, b13, b14, b15, b16, b17, b18, b19⟩ := C3
    obtain ⟨fo, fp, fq, fv', ffx, fy, fr⟩ := f'
    simp only at b0 b1 b2 b3 b4 b5 b6 b7 b8 b9 b10 b11 b12 b13 b14 b15 b16 b17 b18 b19 hl3 fz3
    go_wp2_with fail
    refine (Tells.of (over_any ⟨fo, fp, fq, fv', ffx, fy, fr⟩ _) (v' := .bool b) (by rw [← HQ.out])).mono ?_
    rintro _ w3 ⟨rfl, z3⟩
    have Z3 := Lib.hid z3
    clear z3
    go_wp2
    go_ret
    exact ⟨rfl, (W4.out.after Z3.out).st, Z2.out.trans (((Kb.refl _ _).call hl3 Z3.out).kd)⟩
set_option maxHeartbeats 4000000 in
theorem wends_2 (ho : x.f.op = 2) {m' : List Int} {f' : Fr} {b : Bool} (he : callS k.W k.D k.J k.S m x.f = (m', f')) (hq : (f'.res != 0) = b) (hs : m.length ≤ 500) (hu : UM m) (hf : UF x.f) (h : Wst k x m l w) : Calls Tryz.prog 58 #[.pointer (some ⟨k.g, 0, none⟩)] w fun e w' => e = .returned (.bool b) ∧ Wst k { x with f := f' } m' l w' ∧ Kd k.g w w' := by
  have hlen := callS_len k.W k.D k.J k.S m x.f
  rw [he] at hlen
  obtain ⟨A, c, SA, cs, E, ce, h⟩ := h
  have H := Lib.hid h
  have HE0 := Lib.hid he
  have HQ := Lib.hid hq
  have HS := Lib.hid hs
  have HU := Lib.hid hu
  have HF := Lib.hid hf
  have HL := Lib.hid (show m'.length = m.length from hlen)
  clear he hq hs hu hf hlen
  have hg := h.bx.lt
  obtain ⟨a0, a1, a2, a3, a4, a5, a6, a7, a8, a9, a10, a11, a12, a13, a14, a15, a16, a17, a18, a19⟩ := h.bx.cells
  have fz := h.bx.free
  clear h
  obtain ⟨n₀, n₁, g, W, D, J, S, me, d, AT, T, ct⟩ := k
  obtain ⟨pc, stk, ⟨o, p, q, v, fx, y, r⟩, sp, lk⟩ := x
  simp only at ho
  simp only at a0 a1 a2 a3 a4 a5 a6 a7 a8 a9 a10 a11 a12 a13 a14 a15 a16 a17 a18 a19 fz hg ⊢
  have ZC := Lib.hid (Below.refl w.heap.size w).drew
  have HK := Lib.hid (show ∀ x', Kw g w x' → (fun w' => w'.cell? ⟨g, 11, none⟩ = some (.int .i64 W) ∧ w'.cell? ⟨g, 12, none⟩ = some (.int .i64 D) ∧ w'.cell? ⟨g, 13, none⟩ = some (.int .i64 J) ∧ w'.cell? ⟨g, 14, none⟩ = some (.int .i64 S) ∧ w'.cell? ⟨g, 15, none⟩ = some (.slice AT T.length ct) ∧ w'.cell? ⟨g, 17, none⟩ = some (.int .i64 me) ∧ w'.cell? ⟨g, 18, none⟩ = some (.int .u64 d) ∧ Kw g w w') x' from fun x' hx =>
    ⟨(hx.cells 11 (by decide) (by decide) (by decide)).trans a11, (hx.cells 12 (by decide) (by decide) (by decide)).trans a12, (hx.cells 13 (by decide) (by decide) (by decide)).trans a13, (hx.cells 14 (by decide) (by decide) (by decide)).trans a14, (hx.cells 15 (by decide) (by decide) (by decide)).trans a15, (hx.cells 17 (by decide) (by decide) (by decide)).trans a17, (hx.cells 18 (by decide) (by decide) (by decide)).trans a18, hx⟩)
  have hHeld0 := HK.out _ (Kw.refl g w)
  subst ho
  have HE := Lib.hid (show dqS W D J S m ⟨2, p, q, v, fx, y, r⟩ = (m', f') by rw [← HE0.out]; unfold callS; simp)
  clear HE0
  go_enter Tryz.func58, Tryz.ntmps58
  go_upto_region 10 with fail
  refine wp_region_held_drew (S := fun w' => w'.cell? ⟨g, 11, none⟩ = some (.int .i64 W) ∧ w'.cell? ⟨g, 12, none⟩ = some (.int .i64 D) ∧ w'.cell? ⟨g, 13, none⟩ = some (.int .i64 J) ∧ w'.cell? ⟨g, 14, none⟩ = some (.int .i64 S) ∧ w'.cell? ⟨g, 15, none⟩ = some (.slice AT T.length ct) ∧ w'.cell? ⟨g, 17, none⟩ = some (.int .i64 me) ∧ w'.cell? ⟨g, 18, none⟩ = some (.int .u64 d) ∧ Kw g w w') (by kernel_rfl) (kw_drew HK.out (fun _ h => h.2.2.2.2.2.2.2) hHeld0) (fun hHeld => ?_)
  refine tkH 0 (v := ?vc1) rfl ?yc1 ?rc1
  case yc1 => (intro w hSw; (try dsimp only at hSw); go_simp; (try with_reducible rfl))
  (try simp only [Act.put, jA, jB, jC])
  refine tkH 1 (v := ?vc2) rfl ?yc2 ?rc2
  case yc2 => (intro w hSw; (try dsimp only at hSw); go_simp; (try with_reducible rfl))
  (try simp only [Act.put, jA, jB, jC])
  refine tkH 2 (v := ?vc3) rfl ?yc3 ?rc3
  case yc3 => (intro w hSw; (try dsimp only at hSw); go_simp; (try with_reducible rfl))
  (try simp only [Act.put, jA, jB, jC])
  refine tkH 3 (v := ?vc4) rfl ?yc4 ?rc4
  case yc4 => (intro w hSw; (try dsimp only at hSw); go_simp; (try with_reducible rfl))
  (try simp only [Act.put, jA, jB, jC])
  refine tkH 4 (v := ?vc5) rfl ?yc5 ?rc5
  case yc5 => (intro w hSw; (try dsimp only at hSw); go_simp; (try with_reducible rfl))
  (try simp only [Act.put, jA, jB, jC])
  refine tkH 5 (v := ?vc6) rfl ?yc6 ?rc6
  case yc6 => (intro w hSw; (try dsimp only at hSw); go_simp; (try with_reducible rfl))
  (try simp only [Act.put, jA, jB, jC])
  refine tkH 6 (v := ?vc7) rfl ?yc7 ?rc7
  case yc7 => (intro w hSw; (try dsimp only at hSw); go_simp; (try with_reducible rfl))
  (try simp only [Act.put, jA, jB, jC])
  refine tkH 7 (v := ?vc8) rfl ?yc8 ?rc8
  case yc8 => (intro w hSw; (try dsimp only at hSw); go_simp; (try with_reducible rfl))
  (try simp only [Act.put, jA, jB, jC])
  refine tkH 8 (v := ?vc9) rfl ?yc9 ?rc9
  case yc9 => (intro w hSw; (try dsimp only at hSw); go_simp; (try with_reducible rfl))
  (try simp only [Act.put, jA, jB, jC])
  refine tkH 9 (v := ?vc10) rfl ?yc10 ?rc10
  case yc10 => (intro w hSw; (try dsimp only at hSw); go_simp; (try with_reducible rfl))
  (try simp only [Act.put, jA, jB, jC])
  refine tkH 11 (v := ?vc11) rfl ?yc11 ?rc11
  case yc11 => (intro w hSw; (try dsimp only at hSw); go_simp; (try with_reducible rfl))
  (try simp only [Act.put, jA, jB, jC])
  refine tkH 12 (v := ?vc12) rfl ?yc12 ?rc12
  case yc12 => (intro w hSw; (try dsimp only at hSw); go_simp; (try with_reducible rfl))
  (try simp only [Act.put, jA, jB, jC])
  refine tkH 13 (v := ?vc13) rfl ?yc13 ?rc13
  case yc13 => (intro w hSw; (try dsimp only at hSw); go_simp; (try with_reducible rfl))
  (try simp only [Act.put, jA, jB, jC])
  refine tkH 14 (v := ?vc14) rfl ?yc14 ?rc14
  case yc14 => (intro w hSw; (try dsimp only at hSw); go_simp; (try with_reducible rfl))
  (try simp only [Act.put, jA, jB, jC])
  refine wpAnyH_ready (rs := [10, 15]) (by kernel_rfl) (by simp) ?_
  refine (AllReadyH.cons rfl (fun K hK => ?_) (AllReadyH.cons rfl (fun K hK => ?_) AllReadyH.nil))
  · go_simp
    refine hK.out _ _ (hHeld) (fun hHeld2 => ?_)
    clear hK K hHeld
    have hHeld := hHeld2
    clear hHeld2
    (try simp only [Act.put, jA, jB, jC])
    refine wpAnyH_ready (rs := [15]) (by kernel_rfl) (by simp) ?_
    refine (AllReadyH.cons rfl (fun K hK => ?_) AllReadyH.nil)
    go_simp
    refine hK.out _ _ (hHeld) (fun hHeld2 => ?_)
    clear hK K hHeld
    have hHeld := hHeld2
    clear hHeld2
    (try simp only [Act.put, jA, jB, jC])
    refine wpAnyH_ready (rs := [16]) (by kernel_rfl) (by simp) ?_
    refine (AllReadyH.cons rfl (fun K hK => ?_) AllReadyH.nil)
    go_simp
    refine (dstep_n (c := c) (H.out.after ZC.out).rm.rd rfl HS.out HU.out HF.out HE.out).mono ?_
    rintro e w1 ⟨A1, c1, rfl, hr, hb⟩
    go_wp2_with fail
    have HR := Lib.hid (show Rx 0 g w1 A1 m' from hr.rx (Nat.zero_le _) (.inl (Nat.lt_of_lt_of_le hg ZC.out.size)))
    have HA1 := Lib.hid (show Apart E A1 m'.length from apart_new (H.out.after ZC.out).re (Nat.le_refl _) (fun hp a ha => by obtain ⟨ad, e, h1, _⟩ := hr hp; rw [ha] at e; injection e with e; subst e; exact h1))
    replace ZC := Lib.hid (keep_call (w2 := w) hb ZC.out)
    have e := (H.out.after ZC.out).bx; obtain ⟨b0, b1, b2, b3, b4, b5, b6, b7, b8, b9, b10, b11, b12, b13, b14, b15, b16, b17, b18, b19⟩ := e.cells; have fz := e.free; simp only at b0 b1 b2 b3 b4 b5 b6 b7 b8 b9 b10 b11 b12 b13 b14 b15 b16 b17 b18 b19; clear e
    clear hr
    refine hK.out _ _ (kw_call HK.out (fun _ h => h.2.2.2.2.2.2.2) hg hb hHeld) (fun hHeld2 => ?_)
    clear hK K hHeld
    have hHeld := hHeld2
    clear hHeld2
    (try simp only [Act.put, jA, jB, jC])
    refine tkH 17 (v := ?vc15) rfl ?yc15 ?rc15
    case yc15 => (intro w hSw; (try dsimp only at hSw); go_simp; (try with_reducible rfl))
    (try simp only [Act.put, jA, jB, jC])
    refine tkH 18 (v := ?vc16) rfl ?yc16 ?rc16
    case yc16 => (intro w hSw; (try dsimp only at hSw); go_simp; (try with_reducible rfl))
    (try simp only [Act.put, jA, jB, jC])
    refine tkH 19 (v := ?vc17) rfl ?yc17 ?rc17
    case yc17 => (intro w hSw; (try dsimp only at hSw); go_simp; (try with_reducible rfl))
    (try simp only [Act.put, jA, jB, jC])
    refine tkH 20 (v := ?vc18) rfl ?yc18 ?rc18
    case yc18 => (intro w hSw; (try dsimp only at hSw); go_simp; (try with_reducible rfl))
    (try simp only [Act.put, jA, jB, jC])
    refine tkH 21 (v := ?vc19) rfl ?yc19 ?rc19
    case yc19 => (intro w hSw; (try dsimp only at hSw); go_simp; (try with_reducible rfl))
    (try simp only [Act.put, jA, jB, jC])
    refine wpAnyH_ready (rs := [22]) (by kernel_rfl) (by simp) ?_
    refine (AllReadyH.cons rfl (fun K hK => ?_) AllReadyH.nil)
    go_simp
    refine hK.out _ _ (kw_set HK.out (fun _ h => h.2.2.2.2.2.2.2) 16 (by decide) _ hHeld) (fun hHeld2 => ?_)
    clear hK K hHeld
    have hHeld := hHeld2
    clear hHeld2
    (try simp only [Act.put, jA, jB, jC])
    refine tkH 23 (v := ?vc20) rfl ?yc20 ?rc20
    case yc20 => (intro w hSw; (try dsimp only at hSw); go_simp; (try with_reducible rfl))
    (try simp only [Act.put, jA, jB, jC])
    refine tkH 24 (v := ?vc21) rfl ?yc21 ?rc21
    case yc21 => (intro w hSw; (try dsimp only at hSw); go_simp; (try with_reducible rfl))
    (try simp only [Act.put, jA, jB, jC])
    refine tkH 25 (v := ?vc22) rfl ?yc22 ?rc22
    case yc22 => (intro w hSw; (try dsimp only at hSw); go_simp; (try with_reducible rfl))
    (try simp only [Act.put, jA, jB, jC])
    refine wpAnyH_ready (rs := [26]) (by kernel_rfl) (by simp) ?_
    refine (AllReadyH.cons rfl (fun K hK => ?_) AllReadyH.nil)
    go_simp
    refine hK.out _ _ (kw_pwk HK.out (fun _ h => h.2.2.2.2.2.2.2) f' hHeld) (fun hHeld2 => ?_)
    clear hK K hHeld
    have hHeld := hHeld2
    clear hHeld2
    (try simp only [Act.put, jA, jB, jC])
    refine wpAnyH_done (by kernel_rfl) ?_ _
    clear hHeld
    have W2 := Lib.hid (show Wst _ { ({ pc := pc, stk := stk, f := ⟨2, p, q, v, fx, y, r⟩, spins := sp, look := lk } : WkS) with f := f' } m' l (pwk (w1.setCell ⟨g, 16, none⟩ (.slice A1 m.length c1)) g f') from by have q := ((H.out.after ZC.out).setM (c' := c1) HR.out HA1.out).pwk f'; rw [HL.out] at q; exact q.st)
    have Z2 := Lib.hid (((((Kb.refl _ _).call hg ZC.out).set 16 (.slice A1 m.length c1)).pwk f').kd)
    change Exit.then _ _ _ _ (pwk (w1.setCell ⟨g, 16, none⟩ (.slice A1 m.length c1)) g f')
    generalize pwk (w1.setCell ⟨g, 16, none⟩ (.slice A1 m.length c1)) g f' = w2 at W2 Z2 ⊢
    obtain ⟨A3, c3, SA3, cs3, E3, ce3, W3⟩ := W2.out
    have W4 := Lib.hid W3
    have C3 := W3.bx.cells
    have fz3 := W3.bx.free
    have hl3 := W3.bx.lt
    clear W3 b0 b1 b2 b3 b4 b5 b6 b7 b8 b9 b10 b11 b12 b13 b14 b15 b16 b17 b18 b19 fz
    obtain ⟨b0, b1, b2, b3, b4, b5, b6, b7, b8, b9, b10, b11, b12, b13, b14, b15, b16, b17, b18, b19⟩ := C3
    obtain ⟨fo, fp, fq, fv', ffx, fy, fr⟩ := f'
    simp only at b0 b1 b2 b3 b4 b5 b6 b7 b8 b9 b10 b11 b12 b13 b14 b15 b16 b17 b18 b19 hl3 fz3
    go_wp2_with fail
    refine (Tells.of (over_any ⟨fo, fp, fq, fv', ffx, fy, fr⟩ _) (v' := .bool b) (by rw [← HQ.out])).mono ?_
    rintro _ w3 ⟨rfl, z3⟩
    have Z3 := Lib.hid z3
    clear z3
    go_wp2
    go_ret
    exact ⟨rfl, (W4.out.after Z3.out).st, Z2.out.trans (((Kb.refl _ _).call hl3 Z3.out).kd)⟩
  · go_simp
    refine hK.out _ _ (hHeld) (fun hHeld2 => ?_)
    clear hK K hHeld
    have hHeld := hHeld2
    clear hHeld2
    (try simp only [Act.put, jA, jB, jC])
    refine wpAnyH_ready (rs := [10]) (by kernel_rfl) (by simp) ?_
    refine (AllReadyH.cons rfl (fun K hK => ?_) AllReadyH.nil)
    go_simp
    refine hK.out _ _ (hHeld) (fun hHeld2 => ?_)
    clear hK K hHeld
    have hHeld := hHeld2
    clear hHeld2
    (try simp only [Act.put, jA, jB, jC])
    refine wpAnyH_ready (rs := [16]) (by kernel_rfl) (by simp) ?_
    refine (AllReadyH.cons rfl (fun K hK => ?_) AllReadyH.nil)
    go_simp
    refine (dstep_n (c := c) (H.out.after ZC.out).rm.rd rfl HS.out HU.out HF.out HE.out).mono ?_
    rintro e w1 ⟨A1, c1, rfl, hr, hb⟩
    go_wp2_with fail
    have HR := Lib.hid (show Rx 0 g w1 A1 m' from hr.rx (Nat.zero_le _) (.inl (Nat.lt_of_lt_of_le hg ZC.out.size)))
    have HA1 := Lib.hid (show Apart E A1 m'.length from apart_new (H.out.after ZC.out).re (Nat.le_refl _) (fun hp a ha => by obtain ⟨ad, e, h1, _⟩ := hr hp; rw [ha] at e; injection e with e; subst e; exact h1))
    replace ZC := Lib.hid (keep_call (w2 := w) hb ZC.out)
    have e := (H.out.after ZC.out).bx; obtain ⟨b0, b1, b2, b3, b4, b5, b6, b7, b8, b9, b10, b11, b12, b13, b14, b15, b16, b17, b18, b19⟩ := e.cells; have fz := e.free; simp only at b0 b1 b2 b3 b4 b5 b6 b7 b8 b9 b10 b11 b12 b13 b14 b15 b16 b17 b18 b19; clear e
    clear hr
    refine hK.out _ _ (kw_call HK.out (fun _ h => h.2.2.2.2.2.2.2) hg hb hHeld) (fun hHeld2 => ?_)
    clear hK K hHeld
    have hHeld := hHeld2
    clear hHeld2
    (try simp only [Act.put, jA, jB, jC])
    refine tkH 17 (v := ?vc23) rfl ?yc23 ?rc23
    case yc23 => (intro w hSw; (try dsimp only at hSw); go_simp; (try with_reducible rfl))
    (try simp only [Act.put, jA, jB, jC])
    refine tkH 18 (v := ?vc24) rfl ?yc24 ?rc24
    case yc24 => (intro w hSw; (try dsimp only at hSw); go_simp; (try with_reducible rfl))
    (try simp only [Act.put, jA, jB, jC])
    refine tkH 19 (v := ?vc25) rfl ?yc25 ?rc25
    case yc25 => (intro w hSw; (try dsimp only at hSw); go_simp; (try with_reducible rfl))
    (try simp only [Act.put, jA, jB, jC])
    refine tkH 20 (v := ?vc26) rfl ?yc26 ?rc26
    case yc26 => (intro w hSw; (try dsimp only at hSw); go_simp; (try with_reducible rfl))
    (try simp only [Act.put, jA, jB, jC])
    refine tkH 21 (v := ?vc27) rfl ?yc27 ?rc27
    case yc27 => (intro w hSw; (try dsimp only at hSw); go_simp; (try with_reducible rfl))
    (try simp only [Act.put, jA, jB, jC])
    refine wpAnyH_ready (rs := [22]) (by kernel_rfl) (by simp) ?_
    refine (AllReadyH.cons rfl (fun K hK => ?_) AllReadyH.nil)
    go_simp
    refine hK.out _ _ (kw_set HK.out (fun _ h => h.2.2.2.2.2.2.2) 16 (by decide) _ hHeld) (fun hHeld2 => ?_)
    clear hK K hHeld
    have hHeld := hHeld2
    clear hHeld2
    (try simp only [Act.put, jA, jB, jC])
    refine tkH 23 (v := ?vc28) rfl ?yc28 ?rc28
    case yc28 => (intro w hSw; (try dsimp only at hSw); go_simp; (try with_reducible rfl))
    (try simp only [Act.put, jA, jB, jC])
    refine tkH 24 (v := ?vc29) rfl ?yc29 ?rc29
    case yc29 => (intro w hSw; (try dsimp only at hSw); go_simp; (try with_reducible rfl))
    (try simp only [Act.put, jA, jB, jC])
    refine tkH 25 (v := ?vc30) rfl ?yc30 ?rc30
    case yc30 => (intro w hSw; (try dsimp only at hSw); go_simp; (try with_reducible rfl))
    (try simp only [Act.put, jA, jB, jC])
    refine wpAnyH_ready (rs := [26]) (by kernel_rfl) (by simp) ?_
    refine (AllReadyH.cons rfl (fun K hK => ?_) AllReadyH.nil)
    go_simp
    refine hK.out _ _ (kw_pwk HK.out (fun _ h => h.2.2.2.2.2.2.2) f' hHeld) (fun hHeld2 => ?_)
    clear hK K hHeld
    have hHeld := hHeld2
    clear hHeld2
    (try simp only [Act.put, jA, jB, jC])
    refine wpAnyH_done (by kernel_rfl) ?_ _
    clear hHeld
    have W2 := Lib.hid (show Wst _ { ({ pc := pc, stk := stk, f := ⟨2, p, q, v, fx, y, r⟩, spins := sp, look := lk } : WkS) with f := f' } m' l (pwk (w1.setCell ⟨g, 16, none⟩ (.slice A1 m.length c1)) g f') from by have q := ((H.out.after ZC.out).setM (c' := c1) HR.out HA1.out).pwk f'; rw [HL.out] at q; exact q.st)
    have Z2 := Lib.hid (((((Kb.refl _ _).call hg ZC.out).set 16 (.slice A1 m.length c1)).pwk f').kd)
    change Exit.then _ _ _ _ (pwk (w1.setCell ⟨g, 16, none⟩ (.slice A1 m.length c1)) g f')
    generalize pwk (w1.setCell ⟨g, 16, none⟩ (.slice A1 m.length c1)) g f' = w2 at W2 Z2 ⊢
    obtain ⟨A3, c3, SA3, cs3, E3, ce3, W3⟩ := W2.out
    have W4 := Lib.hid W3
    have C3 := W3.bx.cells
    have fz3 := W3.bx.free
    have hl3 := W3.bx.lt
    clear W3 b0 b1 b2 b3 b4 b5 b6 b7 b8 b9 b10 b11 b12 b13 b14 b15 b16 b17 b18 b19 fz
    obtain ⟨b0, b1, b2, b3, b4, b5, b6, b7, b8, b9, b10, b11, b12, b13, b14, b15, b16, b17, b18, b19⟩ := C3
    obtain ⟨fo, fp, fq, fv', ffx, fy, fr⟩ := f'
    simp only at b0 b1 b2 b3 b4 b5 b6 b7 b8 b9 b10 b11 b12 b13 b14 b15 b16 b17 b18 b19 hl3 fz3
    go_wp2_with fail
    refine (Tells.of (over_any ⟨fo, fp, fq, fv', ffx, fy, fr⟩ _) (v' := .bool b) (by rw [← HQ.out])).mono ?_
    rintro _ w3 ⟨rfl, z3⟩
    have Z3 := Lib.hid z3
    clear z3
    go_wp2
    go_ret
    exact ⟨rfl, (W4.out.after Z3.out).st, Z2.out.trans (((Kb.refl _ _).call hl3 Z3.out).kd)⟩
set_option maxHeartbeats 4000000 in
theorem wends_3 (ho : x.f.op = 3) {m' : List Int} {f' : Fr} {b : Bool} (he : callS k.W k.D k.J k.S m x.f = (m', f')) (hq : (f'.res != 0) = b) (hs : m.length ≤ 500) (hu : UM m) (hf : UF x.f) (h : Wst k x m l w) : Calls Tryz.prog 58 #[.pointer (some ⟨k.g, 0, none⟩)] w fun e w' => e = .returned (.bool b) ∧ Wst k { x with f := f' } m' l w' ∧ Kd k.g w w' := by
  have hlen := callS_len k.W k.D k.J k.S m x.f
  rw [he] at hlen
  obtain ⟨A, c, SA, cs, E, ce, h⟩ := h
  have H := Lib.hid h
  have HE0 := Lib.hid he
  have HQ := Lib.hid hq
  have HS := Lib.hid hs
  have HU := Lib.hid hu
  have HF := Lib.hid hf
  have HL := Lib.hid (show m'.length = m.length from hlen)
  clear he hq hs hu hf hlen
  have hg := h.bx.lt
  obtain ⟨a0, a1, a2, a3, a4, a5, a6, a7, a8, a9, a10, a11, a12, a13, a14, a15, a16, a17, a18, a19⟩ := h.bx.cells
  have fz := h.bx.free
  clear h
  obtain ⟨n₀, n₁, g, W, D, J, S, me, d, AT, T, ct⟩ := k
  obtain ⟨pc, stk, ⟨o, p, q, v, fx, y, r⟩, sp, lk⟩ := x
  simp only at ho
  simp only at a0 a1 a2 a3 a4 a5 a6 a7 a8 a9 a10 a11 a12 a13 a14 a15 a16 a17 a18 a19 fz hg ⊢
  have ZC := Lib.hid (Below.refl w.heap.size w).drew
  have HK := Lib.hid (show ∀ x', Kw g w x' → (fun w' => w'.cell? ⟨g, 11, none⟩ = some (.int .i64 W) ∧ w'.cell? ⟨g, 12, none⟩ = some (.int .i64 D) ∧ w'.cell? ⟨g, 13, none⟩ = some (.int .i64 J) ∧ w'.cell? ⟨g, 14, none⟩ = some (.int .i64 S) ∧ w'.cell? ⟨g, 15, none⟩ = some (.slice AT T.length ct) ∧ w'.cell? ⟨g, 17, none⟩ = some (.int .i64 me) ∧ w'.cell? ⟨g, 18, none⟩ = some (.int .u64 d) ∧ Kw g w w') x' from fun x' hx =>
    ⟨(hx.cells 11 (by decide) (by decide) (by decide)).trans a11, (hx.cells 12 (by decide) (by decide) (by decide)).trans a12, (hx.cells 13 (by decide) (by decide) (by decide)).trans a13, (hx.cells 14 (by decide) (by decide) (by decide)).trans a14, (hx.cells 15 (by decide) (by decide) (by decide)).trans a15, (hx.cells 17 (by decide) (by decide) (by decide)).trans a17, (hx.cells 18 (by decide) (by decide) (by decide)).trans a18, hx⟩)
  have hHeld0 := HK.out _ (Kw.refl g w)
  subst ho
  have HE := Lib.hid (show ijS W D J S m ⟨3, p, q, v, fx, y, r⟩ = (m', f') by rw [← HE0.out]; unfold callS; simp)
  clear HE0
  go_enter Tryz.func58, Tryz.ntmps58
  go_upto_region 10 with fail
  refine wp_region_held_drew (S := fun w' => w'.cell? ⟨g, 11, none⟩ = some (.int .i64 W) ∧ w'.cell? ⟨g, 12, none⟩ = some (.int .i64 D) ∧ w'.cell? ⟨g, 13, none⟩ = some (.int .i64 J) ∧ w'.cell? ⟨g, 14, none⟩ = some (.int .i64 S) ∧ w'.cell? ⟨g, 15, none⟩ = some (.slice AT T.length ct) ∧ w'.cell? ⟨g, 17, none⟩ = some (.int .i64 me) ∧ w'.cell? ⟨g, 18, none⟩ = some (.int .u64 d) ∧ Kw g w w') (by kernel_rfl) (kw_drew HK.out (fun _ h => h.2.2.2.2.2.2.2) hHeld0) (fun hHeld => ?_)
  refine tkH 0 (v := ?vc1) rfl ?yc1 ?rc1
  case yc1 => (intro w hSw; (try dsimp only at hSw); go_simp; (try with_reducible rfl))
  (try simp only [Act.put, jA, jB, jC])
  refine tkH 1 (v := ?vc2) rfl ?yc2 ?rc2
  case yc2 => (intro w hSw; (try dsimp only at hSw); go_simp; (try with_reducible rfl))
  (try simp only [Act.put, jA, jB, jC])
  refine tkH 2 (v := ?vc3) rfl ?yc3 ?rc3
  case yc3 => (intro w hSw; (try dsimp only at hSw); go_simp; (try with_reducible rfl))
  (try simp only [Act.put, jA, jB, jC])
  refine tkH 3 (v := ?vc4) rfl ?yc4 ?rc4
  case yc4 => (intro w hSw; (try dsimp only at hSw); go_simp; (try with_reducible rfl))
  (try simp only [Act.put, jA, jB, jC])
  refine tkH 4 (v := ?vc5) rfl ?yc5 ?rc5
  case yc5 => (intro w hSw; (try dsimp only at hSw); go_simp; (try with_reducible rfl))
  (try simp only [Act.put, jA, jB, jC])
  refine tkH 5 (v := ?vc6) rfl ?yc6 ?rc6
  case yc6 => (intro w hSw; (try dsimp only at hSw); go_simp; (try with_reducible rfl))
  (try simp only [Act.put, jA, jB, jC])
  refine tkH 6 (v := ?vc7) rfl ?yc7 ?rc7
  case yc7 => (intro w hSw; (try dsimp only at hSw); go_simp; (try with_reducible rfl))
  (try simp only [Act.put, jA, jB, jC])
  refine tkH 7 (v := ?vc8) rfl ?yc8 ?rc8
  case yc8 => (intro w hSw; (try dsimp only at hSw); go_simp; (try with_reducible rfl))
  (try simp only [Act.put, jA, jB, jC])
  refine tkH 8 (v := ?vc9) rfl ?yc9 ?rc9
  case yc9 => (intro w hSw; (try dsimp only at hSw); go_simp; (try with_reducible rfl))
  (try simp only [Act.put, jA, jB, jC])
  refine tkH 9 (v := ?vc10) rfl ?yc10 ?rc10
  case yc10 => (intro w hSw; (try dsimp only at hSw); go_simp; (try with_reducible rfl))
  (try simp only [Act.put, jA, jB, jC])
  refine tkH 11 (v := ?vc11) rfl ?yc11 ?rc11
  case yc11 => (intro w hSw; (try dsimp only at hSw); go_simp; (try with_reducible rfl))
  (try simp only [Act.put, jA, jB, jC])
  refine tkH 12 (v := ?vc12) rfl ?yc12 ?rc12
  case yc12 => (intro w hSw; (try dsimp only at hSw); go_simp; (try with_reducible rfl))
  (try simp only [Act.put, jA, jB, jC])
  refine tkH 13 (v := ?vc13) rfl ?yc13 ?rc13
  case yc13 => (intro w hSw; (try dsimp only at hSw); go_simp; (try with_reducible rfl))
  (try simp only [Act.put, jA, jB, jC])
  refine tkH 14 (v := ?vc14) rfl ?yc14 ?rc14
  case yc14 => (intro w hSw; (try dsimp only at hSw); go_simp; (try with_reducible rfl))
  (try simp only [Act.put, jA, jB, jC])
  refine wpAnyH_ready (rs := [10, 15]) (by kernel_rfl) (by simp) ?_
  refine (AllReadyH.cons rfl (fun K hK => ?_) (AllReadyH.cons rfl (fun K hK => ?_) AllReadyH.nil))
  · go_simp
    refine hK.out _ _ (hHeld) (fun hHeld2 => ?_)
    clear hK K hHeld
    have hHeld := hHeld2
    clear hHeld2
    (try simp only [Act.put, jA, jB, jC])
    refine wpAnyH_ready (rs := [15]) (by kernel_rfl) (by simp) ?_
    refine (AllReadyH.cons rfl (fun K hK => ?_) AllReadyH.nil)
    go_simp
    refine hK.out _ _ (hHeld) (fun hHeld2 => ?_)
    clear hK K hHeld
    have hHeld := hHeld2
    clear hHeld2
    (try simp only [Act.put, jA, jB, jC])
    refine wpAnyH_ready (rs := [16]) (by kernel_rfl) (by simp) ?_
    refine (AllReadyH.cons rfl (fun K hK => ?_) AllReadyH.nil)
    go_simp
    refine (istep_n (c := c) (H.out.after ZC.out).rm.rd rfl HS.out HU.out HF.out HE.out).mono ?_
    rintro e w1 ⟨A1, c1, rfl, hr, hb⟩
    go_wp2_with fail
    have HR := Lib.hid (show Rx 0 g w1 A1 m' from hr.rx (Nat.zero_le _) (.inl (Nat.lt_of_lt_of_le hg ZC.out.size)))
    have HA1 := Lib.hid (show Apart E A1 m'.length from apart_new (H.out.after ZC.out).re (Nat.le_refl _) (fun hp a ha => by obtain ⟨ad, e, h1, _⟩ := hr hp; rw [ha] at e; injection e with e; subst e; exact h1))
    replace ZC := Lib.hid (keep_call (w2 := w) hb ZC.out)
    have e := (H.out.after ZC.out).bx; obtain ⟨b0, b1, b2, b3, b4, b5, b6, b7, b8, b9, b10, b11, b12, b13, b14, b15, b16, b17, b18, b19⟩ := e.cells; have fz := e.free; simp only at b0 b1 b2 b3 b4 b5 b6 b7 b8 b9 b10 b11 b12 b13 b14 b15 b16 b17 b18 b19; clear e
    clear hr
    refine hK.out _ _ (kw_call HK.out (fun _ h => h.2.2.2.2.2.2.2) hg hb hHeld) (fun hHeld2 => ?_)
    clear hK K hHeld
    have hHeld := hHeld2
    clear hHeld2
    (try simp only [Act.put, jA, jB, jC])
    refine tkH 17 (v := ?vc15) rfl ?yc15 ?rc15
    case yc15 => (intro w hSw; (try dsimp only at hSw); go_simp; (try with_reducible rfl))
    (try simp only [Act.put, jA, jB, jC])
    refine tkH 18 (v := ?vc16) rfl ?yc16 ?rc16
    case yc16 => (intro w hSw; (try dsimp only at hSw); go_simp; (try with_reducible rfl))
    (try simp only [Act.put, jA, jB, jC])
    refine tkH 19 (v := ?vc17) rfl ?yc17 ?rc17
    case yc17 => (intro w hSw; (try dsimp only at hSw); go_simp; (try with_reducible rfl))
    (try simp only [Act.put, jA, jB, jC])
    refine tkH 20 (v := ?vc18) rfl ?yc18 ?rc18
    case yc18 => (intro w hSw; (try dsimp only at hSw); go_simp; (try with_reducible rfl))
    (try simp only [Act.put, jA, jB, jC])
    refine tkH 21 (v := ?vc19) rfl ?yc19 ?rc19
    case yc19 => (intro w hSw; (try dsimp only at hSw); go_simp; (try with_reducible rfl))
    (try simp only [Act.put, jA, jB, jC])
    refine wpAnyH_ready (rs := [22]) (by kernel_rfl) (by simp) ?_
    refine (AllReadyH.cons rfl (fun K hK => ?_) AllReadyH.nil)
    go_simp
    refine hK.out _ _ (kw_set HK.out (fun _ h => h.2.2.2.2.2.2.2) 16 (by decide) _ hHeld) (fun hHeld2 => ?_)
    clear hK K hHeld
    have hHeld := hHeld2
    clear hHeld2
    (try simp only [Act.put, jA, jB, jC])
    refine tkH 23 (v := ?vc20) rfl ?yc20 ?rc20
    case yc20 => (intro w hSw; (try dsimp only at hSw); go_simp; (try with_reducible rfl))
    (try simp only [Act.put, jA, jB, jC])
    refine tkH 24 (v := ?vc21) rfl ?yc21 ?rc21
    case yc21 => (intro w hSw; (try dsimp only at hSw); go_simp; (try with_reducible rfl))
    (try simp only [Act.put, jA, jB, jC])
    refine tkH 25 (v := ?vc22) rfl ?yc22 ?rc22
    case yc22 => (intro w hSw; (try dsimp only at hSw); go_simp; (try with_reducible rfl))
    (try simp only [Act.put, jA, jB, jC])
    refine wpAnyH_ready (rs := [26]) (by kernel_rfl) (by simp) ?_
    refine (AllReadyH.cons rfl (fun K hK => ?_) AllReadyH.nil)
    go_simp
    refine hK.out _ _ (kw_pwk HK.out (fun _ h => h.2.2.2.2.2.2.2) f' hHeld) (fun hHeld2 => ?_)
    clear hK K hHeld
    have hHeld := hHeld2
    clear hHeld2
    (try simp only [Act.put, jA, jB, jC])
    refine wpAnyH_done (by kernel_rfl) ?_ _
    clear hHeld
    have W2 := Lib.hid (show Wst _ { ({ pc := pc, stk := stk, f := ⟨3, p, q, v, fx, y, r⟩, spins := sp, look := lk } : WkS) with f := f' } m' l (pwk (w1.setCell ⟨g, 16, none⟩ (.slice A1 m.length c1)) g f') from by have q := ((H.out.after ZC.out).setM (c' := c1) HR.out HA1.out).pwk f'; rw [HL.out] at q; exact q.st)
    have Z2 := Lib.hid (((((Kb.refl _ _).call hg ZC.out).set 16 (.slice A1 m.length c1)).pwk f').kd)
    change Exit.then _ _ _ _ (pwk (w1.setCell ⟨g, 16, none⟩ (.slice A1 m.length c1)) g f')
    generalize pwk (w1.setCell ⟨g, 16, none⟩ (.slice A1 m.length c1)) g f' = w2 at W2 Z2 ⊢
    obtain ⟨A3, c3, SA3, cs3, E3, ce3, W3⟩ := W2.out
    have W4 := Lib.hid W3
    have C3 := W3.bx.cells
    have fz3 := W3.bx.free
    have hl3 := W3.bx.lt
    clear W3 b0 b1 b2 b3 b4 b5 b6 b7 b8 b9 b10 b11 b12 b13 b14 b15 b16 b17 b18 b19 fz
    obtain ⟨b0, b1, b2, b3, b4, b5, b6, b7, b8, b9, b10, b11, b12, b13, b14, b15, b16, b17, b18, b19⟩ := C3
    obtain ⟨fo, fp, fq, fv', ffx, fy, fr⟩ := f'
    simp only at b0 b1 b2 b3 b4 b5 b6 b7 b8 b9 b10 b11 b12 b13 b14 b15 b16 b17 b18 b19 hl3 fz3
    go_wp2_with fail
    refine (Tells.of (over_any ⟨fo, fp, fq, fv', ffx, fy, fr⟩ _) (v' := .bool b) (by rw [← HQ.out])).mono ?_
    rintro _ w3 ⟨rfl, z3⟩
    have Z3 := Lib.hid z3
    clear z3
    go_wp2
    go_ret
    exact ⟨rfl, (W4.out.after Z3.out).st, Z2.out.trans (((Kb.refl _ _).call hl3 Z3.out).kd)⟩
  · go_simp
    refine hK.out _ _ (hHeld) (fun hHeld2 => ?_)
    clear hK K hHeld
    have hHeld := hHeld2
    clear hHeld2
    (try simp only [Act.put, jA, jB, jC])
    refine wpAnyH_ready (rs := [10]) (by kernel_rfl) (by simp) ?_
    refine (AllReadyH.cons rfl (fun K hK => ?_) AllReadyH.nil)
    go_simp
    refine hK.out _ _ (hHeld) (fun hHeld2 => ?_)
    clear hK K hHeld
    have hHeld := hHeld2
    clear hHeld2
    (try simp only [Act.put, jA, jB, jC])
    refine wpAnyH_ready (rs := [16]) (by kernel_rfl) (by simp) ?_
    refine (AllReadyH.cons rfl (fun K hK => ?_) AllReadyH.nil)
    go_simp
    refine (istep_n (c := c) (H.out.after ZC.out).rm.rd rfl HS.out HU.out HF.out HE.out).mono ?_
    rintro e w1 ⟨A1, c1, rfl, hr, hb⟩
    go_wp2_with fail
    have HR := Lib.hid (show Rx 0 g w1 A1 m' from hr.rx (Nat.zero_le _) (.inl (Nat.lt_of_lt_of_le hg ZC.out.size)))
    have HA1 := Lib.hid (show Apart E A1 m'.length from apart_new (H.out.after ZC.out).re (Nat.le_refl _) (fun hp a ha => by obtain ⟨ad, e, h1, _⟩ := hr hp; rw [ha] at e; injection e with e; subst e; exact h1))
    replace ZC := Lib.hid (keep_call (w2 := w) hb ZC.out)
    have e := (H.out.after ZC.out).bx; obtain ⟨b0, b1, b2, b3, b4, b5, b6, b7, b8, b9, b10, b11, b12, b13, b14, b15, b16, b17, b18, b19⟩ := e.cells; have fz := e.free; simp only at b0 b1 b2 b3 b4 b5 b6 b7 b8 b9 b10 b11 b12 b13 b14 b15 b16 b17 b18 b19; clear e
    clear hr
    refine hK.out _ _ (kw_call HK.out (fun _ h => h.2.2.2.2.2.2.2) hg hb hHeld) (fun hHeld2 => ?_)
    clear hK K hHeld
    have hHeld := hHeld2
    clear hHeld2
    (try simp only [Act.put, jA, jB, jC])
    refine tkH 17 (v := ?vc23) rfl ?yc23 ?rc23
    case yc23 => (intro w hSw; (try dsimp only at hSw); go_simp; (try with_reducible rfl))
    (try simp only [Act.put, jA, jB, jC])
    refine tkH 18 (v := ?vc24) rfl ?yc24 ?rc24
    case yc24 => (intro w hSw; (try dsimp only at hSw); go_simp; (try with_reducible rfl))
    (try simp only [Act.put, jA, jB, jC])
    refine tkH 19 (v := ?vc25) rfl ?yc25 ?rc25
    case yc25 => (intro w hSw; (try dsimp only at hSw); go_simp; (try with_reducible rfl))
    (try simp only [Act.put, jA, jB, jC])
    refine tkH 20 (v := ?vc26) rfl ?yc26 ?rc26
    case yc26 => (intro w hSw; (try dsimp only at hSw); go_simp; (try with_reducible rfl))
    (try simp only [Act.put, jA, jB, jC])
    refine tkH 21 (v := ?vc27) rfl ?yc27 ?rc27
    case yc27 => (intro w hSw; (try dsimp only at hSw); go_simp; (try with_reducible rfl))
    (try simp only [Act.put, jA, jB, jC])
    refine wpAnyH_ready (rs := [22]) (by kernel_rfl) (by simp) ?_
    refine (AllReadyH.cons rfl (fun K hK => ?_) AllReadyH.nil)
    go_simp
    refine hK.out _ _ (kw_set HK.out (fun _ h => h.2.2.2.2.2.2.2) 16 (by decide) _ hHeld) (fun hHeld2 => ?_)
    clear hK K hHeld
    have hHeld := hHeld2
    clear hHeld2
    (try simp only [Act.put, jA, jB, jC])
    refine tkH 23 (v := ?vc28) rfl ?yc28 ?rc28
    case yc28 => (intro w hSw; (try dsimp only at hSw); go_simp; (try with_reducible rfl))
    (try simp only [Act.put, jA, jB, jC])
    refine tkH 24 (v := ?vc29) rfl ?yc29 ?rc29
    case yc29 => (intro w hSw; (try dsimp only at hSw); go_simp; (try with_reducible rfl))
    (try simp only [Act.put, jA, jB, jC])
    refine tkH 25 (v := ?vc30) rfl ?yc30 ?rc30
    case yc30 => (intro w hSw; (try dsimp only at hSw); go_simp; (try with_reducible rfl))
    (try simp only [Act.put, jA, jB, jC])
    refine wpAnyH_ready (rs := [26]) (by kernel_rfl) (by simp) ?_
    refine (AllReadyH.cons rfl (fun K hK => ?_) AllReadyH.nil)
    go_simp
    refine hK.out _ _ (kw_pwk HK.out (fun _ h => h.2.2.2.2.2.2.2) f' hHeld) (fun hHeld2 => ?_)
    clear hK K hHeld
    have hHeld := hHeld2
    clear hHeld2
    (try simp only [Act.put, jA, jB, jC])
    refine wpAnyH_done (by kernel_rfl) ?_ _
    clear hHeld
    have W2 := Lib.hid (show Wst _ { ({ pc := pc, stk := stk, f := ⟨3, p, q, v, fx, y, r⟩, spins := sp, look := lk } : WkS) with f := f' } m' l (pwk (w1.setCell ⟨g, 16, none⟩ (.slice A1 m.length c1)) g f') from by have q := ((H.out.after ZC.out).setM (c' := c1) HR.out HA1.out).pwk f'; rw [HL.out] at q; exact q.st)
    have Z2 := Lib.hid (((((Kb.refl _ _).call hg ZC.out).set 16 (.slice A1 m.length c1)).pwk f').kd)
    change Exit.then _ _ _ _ (pwk (w1.setCell ⟨g, 16, none⟩ (.slice A1 m.length c1)) g f')
    generalize pwk (w1.setCell ⟨g, 16, none⟩ (.slice A1 m.length c1)) g f' = w2 at W2 Z2 ⊢
    obtain ⟨A3, c3, SA3, cs3, E3, ce3, W3⟩ := W2.out
    have W4 := Lib.hid W3
    have C3 := W3.bx.cells
    have fz3 := W3.bx.free
    have hl3 := W3.bx.lt
    clear W3 b0 b1 b2 b3 b4 b5 b6 b7 b8 b9 b10 b11 b12 b13 b14 b15 b16 b17 b18 b19 fz
    obtain ⟨b0, b1, b2, b3, b4, b5, b6, b7, b8, b9, b10, b11, b12, b13, b14, b15, b16, b17, b18, b19⟩ := C3
    obtain ⟨fo, fp, fq, fv', ffx, fy, fr⟩ := f'
    simp only at b0 b1 b2 b3 b4 b5 b6 b7 b8 b9 b10 b11 b12 b13 b14 b15 b16 b17 b18 b19 hl3 fz3
    go_wp2_with fail
    refine (Tells.of (over_any ⟨fo, fp, fq, fv', ffx, fy, fr⟩ _) (v' := .bool b) (by rw [← HQ.out])).mono ?_
    rintro _ w3 ⟨rfl, z3⟩
    have Z3 := Lib.hid z3
    clear z3
    go_wp2
    go_ret
    exact ⟨rfl, (W4.out.after Z3.out).st, Z2.out.trans (((Kb.refl _ _).call hl3 Z3.out).kd)⟩
set_option maxHeartbeats 4000000 in
theorem wends_4 (ho : x.f.op = 4) {m' : List Int} {f' : Fr} {b : Bool} (he : callS k.W k.D k.J k.S m x.f = (m', f')) (hq : (f'.res != 0) = b) (hs : m.length ≤ 500) (hu : UM m) (hf : UF x.f) (h : Wst k x m l w) : Calls Tryz.prog 58 #[.pointer (some ⟨k.g, 0, none⟩)] w fun e w' => e = .returned (.bool b) ∧ Wst k { x with f := f' } m' l w' ∧ Kd k.g w w' := by
  have hlen := callS_len k.W k.D k.J k.S m x.f
  rw [he] at hlen
  obtain ⟨A, c, SA, cs, E, ce, h⟩ := h
  have H := Lib.hid h
  have HE0 := Lib.hid he
  have HQ := Lib.hid hq
  have HS := Lib.hid hs
  have HU := Lib.hid hu
  have HF := Lib.hid hf
  have HL := Lib.hid (show m'.length = m.length from hlen)
  clear he hq hs hu hf hlen
  have hg := h.bx.lt
  obtain ⟨a0, a1, a2, a3, a4, a5, a6, a7, a8, a9, a10, a11, a12, a13, a14, a15, a16, a17, a18, a19⟩ := h.bx.cells
  have fz := h.bx.free
  clear h
  obtain ⟨n₀, n₁, g, W, D, J, S, me, d, AT, T, ct⟩ := k
  obtain ⟨pc, stk, ⟨o, p, q, v, fx, y, r⟩, sp, lk⟩ := x
  simp only at ho
  simp only at a0 a1 a2 a3 a4 a5 a6 a7 a8 a9 a10 a11 a12 a13 a14 a15 a16 a17 a18 a19 fz hg ⊢
  have ZC := Lib.hid (Below.refl w.heap.size w).drew
  have HK := Lib.hid (show ∀ x', Kw g w x' → (fun w' => w'.cell? ⟨g, 11, none⟩ = some (.int .i64 W) ∧ w'.cell? ⟨g, 12, none⟩ = some (.int .i64 D) ∧ w'.cell? ⟨g, 13, none⟩ = some (.int .i64 J) ∧ w'.cell? ⟨g, 14, none⟩ = some (.int .i64 S) ∧ w'.cell? ⟨g, 15, none⟩ = some (.slice AT T.length ct) ∧ w'.cell? ⟨g, 17, none⟩ = some (.int .i64 me) ∧ w'.cell? ⟨g, 18, none⟩ = some (.int .u64 d) ∧ Kw g w w') x' from fun x' hx =>
    ⟨(hx.cells 11 (by decide) (by decide) (by decide)).trans a11, (hx.cells 12 (by decide) (by decide) (by decide)).trans a12, (hx.cells 13 (by decide) (by decide) (by decide)).trans a13, (hx.cells 14 (by decide) (by decide) (by decide)).trans a14, (hx.cells 15 (by decide) (by decide) (by decide)).trans a15, (hx.cells 17 (by decide) (by decide) (by decide)).trans a17, (hx.cells 18 (by decide) (by decide) (by decide)).trans a18, hx⟩)
  have hHeld0 := HK.out _ (Kw.refl g w)
  subst ho
  have HE := Lib.hid (show ijS W D J S m ⟨4, p, q, v, fx, y, r⟩ = (m', f') by rw [← HE0.out]; unfold callS; simp)
  clear HE0
  go_enter Tryz.func58, Tryz.ntmps58
  go_upto_region 10 with fail
  refine wp_region_held_drew (S := fun w' => w'.cell? ⟨g, 11, none⟩ = some (.int .i64 W) ∧ w'.cell? ⟨g, 12, none⟩ = some (.int .i64 D) ∧ w'.cell? ⟨g, 13, none⟩ = some (.int .i64 J) ∧ w'.cell? ⟨g, 14, none⟩ = some (.int .i64 S) ∧ w'.cell? ⟨g, 15, none⟩ = some (.slice AT T.length ct) ∧ w'.cell? ⟨g, 17, none⟩ = some (.int .i64 me) ∧ w'.cell? ⟨g, 18, none⟩ = some (.int .u64 d) ∧ Kw g w w') (by kernel_rfl) (kw_drew HK.out (fun _ h => h.2.2.2.2.2.2.2) hHeld0) (fun hHeld => ?_)
  refine tkH 0 (v := ?vc1) rfl ?yc1 ?rc1
  case yc1 => (intro w hSw; (try dsimp only at hSw); go_simp; (try with_reducible rfl))
  (try simp only [Act.put, jA, jB, jC])
  refine tkH 1 (v := ?vc2) rfl ?yc2 ?rc2
  case yc2 => (intro w hSw; (try dsimp only at hSw); go_simp; (try with_reducible rfl))
  (try simp only [Act.put, jA, jB, jC])
  refine tkH 2 (v := ?vc3) rfl ?yc3 ?rc3
  case yc3 => (intro w hSw; (try dsimp only at hSw); go_simp; (try with_reducible rfl))
  (try simp only [Act.put, jA, jB, jC])
  refine tkH 3 (v := ?vc4) rfl ?yc4 ?rc4
  case yc4 => (intro w hSw; (try dsimp only at hSw); go_simp; (try with_reducible rfl))
  (try simp only [Act.put, jA, jB, jC])
  refine tkH 4 (v := ?vc5) rfl ?yc5 ?rc5
  case yc5 => (intro w hSw; (try dsimp only at hSw); go_simp; (try with_reducible rfl))
  (try simp only [Act.put, jA, jB, jC])
  refine tkH 5 (v := ?vc6) rfl ?yc6 ?rc6
  case yc6 => (intro w hSw; (try dsimp only at hSw); go_simp; (try with_reducible rfl))
  (try simp only [Act.put, jA, jB, jC])
  refine tkH 6 (v := ?vc7) rfl ?yc7 ?rc7
  case yc7 => (intro w hSw; (try dsimp only at hSw); go_simp; (try with_reducible rfl))
  (try simp only [Act.put, jA, jB, jC])
  refine tkH 7 (v := ?vc8) rfl ?yc8 ?rc8
  case yc8 => (intro w hSw; (try dsimp only at hSw); go_simp; (try with_reducible rfl))
  (try simp only [Act.put, jA, jB, jC])
  refine tkH 8 (v := ?vc9) rfl ?yc9 ?rc9
  case yc9 => (intro w hSw; (try dsimp only at hSw); go_simp; (try with_reducible rfl))
  (try simp only [Act.put, jA, jB, jC])
  refine tkH 9 (v := ?vc10) rfl ?yc10 ?rc10
  case yc10 => (intro w hSw; (try dsimp only at hSw); go_simp; (try with_reducible rfl))
  (try simp only [Act.put, jA, jB, jC])
  refine tkH 11 (v := ?vc11) rfl ?yc11 ?rc11
  case yc11 => (intro w hSw; (try dsimp only at hSw); go_simp; (try with_reducible rfl))
  (try simp only [Act.put, jA, jB, jC])
  refine tkH 12 (v := ?vc12) rfl ?yc12 ?rc12
  case yc12 => (intro w hSw; (try dsimp only at hSw); go_simp; (try with_reducible rfl))
  (try simp only [Act.put, jA, jB, jC])
  refine tkH 13 (v := ?vc13) rfl ?yc13 ?rc13
  case yc13 => (intro w hSw; (try dsimp only at hSw); go_simp; (try with_reducible rfl))
  (try simp only [Act.put, jA, jB, jC])
  refine tkH 14 (v := ?vc14) rfl ?yc14 ?rc14
  case yc14 => (intro w hSw; (try dsimp only at hSw); go_simp; (try with_reducible rfl))
  (try simp only [Act.put, jA, jB, jC])
  refine wpAnyH_ready (rs := [10, 15]) (by kernel_rfl) (by simp) ?_
  refine (AllReadyH.cons rfl (fun K hK => ?_) (AllReadyH.cons rfl (fun K hK => ?_) AllReadyH.nil))
  · go_simp
    refine hK.out _ _ (hHeld) (fun hHeld2 => ?_)
    clear hK K hHeld
    have hHeld := hHeld2
    clear hHeld2
    (try simp only [Act.put, jA, jB, jC])
    refine wpAnyH_ready (rs := [15]) (by kernel_rfl) (by simp) ?_
    refine (AllReadyH.cons rfl (fun K hK => ?_) AllReadyH.nil)
    go_simp
    refine hK.out _ _ (hHeld) (fun hHeld2 => ?_)
    clear hK K hHeld
    have hHeld := hHeld2
    clear hHeld2
    (try simp only [Act.put, jA, jB, jC])
    refine wpAnyH_ready (rs := [16]) (by kernel_rfl) (by simp) ?_
    refine (AllReadyH.cons rfl (fun K hK => ?_) AllReadyH.nil)
    go_simp
    refine (istep_n (c := c) (H.out.after ZC.out).rm.rd rfl HS.out HU.out HF.out HE.out).mono ?_
    rintro e w1 ⟨A1, c1, rfl, hr, hb⟩
    go_wp2_with fail
    have HR := Lib.hid (show Rx 0 g w1 A1 m' from hr.rx (Nat.zero_le _) (.inl (Nat.lt_of_lt_of_le hg ZC.out.size)))
    have HA1 := Lib.hid (show Apart E A1 m'.length from apart_new (H.out.after ZC.out).re (Nat.le_refl _) (fun hp a ha => by obtain ⟨ad, e, h1, _⟩ := hr hp; rw [ha] at e; injection e with e; subst e; exact h1))
    replace ZC := Lib.hid (keep_call (w2 := w) hb ZC.out)
    have e := (H.out.after ZC.out).bx; obtain ⟨b0, b1, b2, b3, b4, b5, b6, b7, b8, b9, b10, b11, b12, b13, b14, b15, b16, b17, b18, b19⟩ := e.cells; have fz := e.free; simp only at b0 b1 b2 b3 b4 b5 b6 b7 b8 b9 b10 b11 b12 b13 b14 b15 b16 b17 b18 b19; clear e
    clear hr
    refine hK.out _ _ (kw_call HK.out (fun _ h => h.2.2.2.2.2.2.2) hg hb hHeld) (fun hHeld2 => ?_)
    clear hK K hHeld
    have hHeld := hHeld2
    clear hHeld2
    (try simp only [Act.put, jA, jB, jC])
    refine tkH 17 (v := ?vc15) rfl ?yc15 ?rc15
    case yc15 => (intro w hSw; (try dsimp only at hSw); go_simp; (try with_reducible rfl))
    (try simp only [Act.put, jA, jB, jC])
    refine tkH 18 (v := ?vc16) rfl ?yc16 ?rc16
    case yc16 => (intro w hSw; (try dsimp only at hSw); go_simp; (try with_reducible rfl))
    (try simp only [Act.put, jA, jB, jC])
    refine tkH 19 (v := ?vc17) rfl ?yc17 ?rc17
    case yc17 => (intro w hSw; (try dsimp only at hSw); go_simp; (try with_reducible rfl))
    (try simp only [Act.put, jA, jB, jC])
    refine tkH 20 (v := ?vc18) rfl ?yc18 ?rc18
    case yc18 => (intro w hSw; (try dsimp only at hSw); go_simp; (try with_reducible rfl))
    (try simp only [Act.put, jA, jB, jC])
    refine tkH 21 (v := ?vc19) rfl ?yc19 ?rc19
    case yc19 => (intro w hSw; (try dsimp only at hSw); go_simp; (try with_reducible rfl))
    (try simp only [Act.put, jA, jB, jC])
    refine wpAnyH_ready (rs := [22]) (by kernel_rfl) (by simp) ?_
    refine (AllReadyH.cons rfl (fun K hK => ?_) AllReadyH.nil)
    go_simp
    refine hK.out _ _ (kw_set HK.out (fun _ h => h.2.2.2.2.2.2.2) 16 (by decide) _ hHeld) (fun hHeld2 => ?_)
    clear hK K hHeld
    have hHeld := hHeld2
    clear hHeld2
    (try simp only [Act.put, jA, jB, jC])
    refine tkH 23 (v := ?vc20) rfl ?yc20 ?rc20
    case yc20 => (intro w hSw; (try dsimp only at hSw); go_simp; (try with_reducible rfl))
    (try simp only [Act.put, jA, jB, jC])
    refine tkH 24 (v := ?vc21) rfl ?yc21 ?rc21
    case yc21 => (intro w hSw; (try dsimp only at hSw); go_simp; (try with_reducible rfl))
    (try simp only [Act.put, jA, jB, jC])
    refine tkH 25 (v := ?vc22) rfl ?yc22 ?rc22
    case yc22 => (intro w hSw; (try dsimp only at hSw); go_simp; (try with_reducible rfl))
    (try simp only [Act.put, jA, jB, jC])
    refine wpAnyH_ready (rs := [26]) (by kernel_rfl) (by simp) ?_
    refine (AllReadyH.cons rfl (fun K hK => ?_) AllReadyH.nil)
    go_simp
    refine hK.out _ _ (kw_pwk HK.out (fun _ h => h.2.2.2.2.2.2.2) f' hHeld) (fun hHeld2 => ?_)
    clear hK K hHeld
    have hHeld := hHeld2
    clear hHeld2
    (try simp only [Act.put, jA, jB, jC])
    refine wpAnyH_done (by kernel_rfl) ?_ _
    clear hHeld
    have W2 := Lib.hid (show Wst _ { ({ pc := pc, stk := stk, f := ⟨4, p, q, v, fx, y, r⟩, spins := sp, look := lk } : WkS) with f := f' } m' l (pwk (w1.setCell ⟨g, 16, none⟩ (.slice A1 m.length c1)) g f') from by have q := ((H.out.after ZC.out).setM (c' := c1) HR.out HA1.out).pwk f'; rw [HL.out] at q; exact q.st)
    have Z2 := Lib.hid (((((Kb.refl _ _).call hg ZC.out).set 16 (.slice A1 m.length c1)).pwk f').kd)
    change Exit.then _ _ _ _ (pwk (w1.setCell ⟨g, 16, none⟩ (.slice A1 m.length c1)) g f')
    generalize pwk (w1.setCell ⟨g, 16, none⟩ (.slice A1 m.length c1)) g f' = w2 at W2 Z2 ⊢
    obtain ⟨A3, c3, SA3, cs3, E3, ce3, W3⟩ := W2.out
    have W4 := Lib.hid W3
    have C3 := W3.bx.cells
    have fz3 := W3.bx.free
    have hl3 := W3.bx.lt
    clear W3 b0 b1 b2 b3 b4 b5 b6 b7 b8 b9 b10 b11 b12 b13 b14 b15 b16 b17 b18 b19 fz
    obtain ⟨b0, b1, b2, b3, b4, b5, b6, b7, b8, b9, b10, b11, b12, b13, b14, b15, b16, b17, b18, b19⟩ := C3
    obtain ⟨fo, fp, fq, fv', ffx, fy, fr⟩ := f'
    simp only at b0 b1 b2 b3 b4 b5 b6 b7 b8 b9 b10 b11 b12 b13 b14 b15 b16 b17 b18 b19 hl3 fz3
    go_wp2_with fail
    refine (Tells.of (over_any ⟨fo, fp, fq, fv', ffx, fy, fr⟩ _) (v' := .bool b) (by rw [← HQ.out])).mono ?_
    rintro _ w3 ⟨rfl, z3⟩
    have Z3 := Lib.hid z3
    clear z3
    go_wp2
    go_ret
    exact ⟨rfl, (W4.out.after Z3.out).st, Z2.out.trans (((Kb.refl _ _).call hl3 Z3.out).kd)⟩
  · go_simp
    refine hK.out _ _ (hHeld) (fun hHeld2 => ?_)
    clear hK K hHeld
    have hHeld := hHeld2
    clear hHeld2
    (try simp only [Act.put, jA, jB, jC])
    refine wpAnyH_ready (rs := [10]) (by kernel_rfl) (by simp) ?_
    refine (AllReadyH.cons rfl (fun K hK => ?_) AllReadyH.nil)
    go_simp
    refine hK.out _ _ (hHeld) (fun hHeld2 => ?_)
    clear hK K hHeld
    have hHeld := hHeld2
    clear hHeld2
    (try simp only [Act.put, jA, jB, jC])
    refine wpAnyH_ready (rs := [16]) (by kernel_rfl) (by simp) ?_
    refine (AllReadyH.cons rfl (fun K hK => ?_) AllReadyH.nil)
    go_simp
    refine (istep_n (c := c) (H.out.after ZC.out).rm.rd rfl HS.out HU.out HF.out HE.out).mono ?_
    rintro e w1 ⟨A1, c1, rfl, hr, hb⟩
    go_wp2_with fail
    have HR := Lib.hid (show Rx 0 g w1 A1 m' from hr.rx (Nat.zero_le _) (.inl (Nat.lt_of_lt_of_le hg ZC.out.size)))
    have HA1 := Lib.hid (show Apart E A1 m'.length from apart_new (H.out.after ZC.out).re (Nat.le_refl _) (fun hp a ha => by obtain ⟨ad, e, h1, _⟩ := hr hp; rw [ha] at e; injection e with e; subst e; exact h1))
    replace ZC := Lib.hid (keep_call (w2 := w) hb ZC.out)
    have e := (H.out.after ZC.out).bx; obtain ⟨b0, b1, b2, b3, b4, b5, b6, b7, b8, b9, b10, b11, b12, b13, b14, b15, b16, b17, b18, b19⟩ := e.cells; have fz := e.free; simp only at b0 b1 b2 b3 b4 b5 b6 b7 b8 b9 b10 b11 b12 b13 b14 b15 b16 b17 b18 b19; clear e
    clear hr
    refine hK.out _ _ (kw_call HK.out (fun _ h => h.2.2.2.2.2.2.2) hg hb hHeld) (fun hHeld2 => ?_)
    clear hK K hHeld
    have hHeld := hHeld2
    clear hHeld2
    (try simp only [Act.put, jA, jB, jC])
    refine tkH 17 (v := ?vc23) rfl ?yc23 ?rc23
    case yc23 => (intro w hSw; (try dsimp only at hSw); go_simp; (try with_reducible rfl))
    (try simp only [Act.put, jA, jB, jC])
    refine tkH 18 (v := ?vc24) rfl ?yc24 ?rc24
    case yc24 => (intro w hSw; (try dsimp only at hSw); go_simp; (try with_reducible rfl))
    (try simp only [Act.put, jA, jB, jC])
    refine tkH 19 (v := ?vc25) rfl ?yc25 ?rc25
    case yc25 => (intro w hSw; (try dsimp only at hSw); go_simp; (try with_reducible rfl))
    (try simp only [Act.put, jA, jB, jC])
    refine tkH 20 (v := ?vc26) rfl ?yc26 ?rc26
    case yc26 => (intro w hSw; (try dsimp only at hSw); go_simp; (try with_reducible rfl))
    (try simp only [Act.put, jA, jB, jC])
    refine tkH 21 (v := ?vc27) rfl ?yc27 ?rc27
    case yc27 => (intro w hSw; (try dsimp only at hSw); go_simp; (try with_reducible rfl))
    (try simp only [Act.put, jA, jB, jC])
    refine wpAnyH_ready (rs := [22]) (by kernel_rfl) (by simp) ?_
    refine (AllReadyH.cons rfl (fun K hK => ?_) AllReadyH.nil)
    go_simp
    refine hK.out _ _ (kw_set HK.out (fun _ h => h.2.2.2.2.2.2.2) 16 (by decide) _ hHeld) (fun hHeld2 => ?_)
    clear hK K hHeld
    have hHeld := hHeld2
    clear hHeld2
    (try simp only [Act.put, jA, jB, jC])
    refine tkH 23 (v := ?vc28) rfl ?yc28 ?rc28
    case yc28 => (intro w hSw; (try dsimp only at hSw); go_simp; (try with_reducible rfl))
    (try simp only [Act.put, jA, jB, jC])
    refine tkH 24 (v := ?vc29) rfl ?yc29 ?rc29
    case yc29 => (intro w hSw; (try dsimp only at hSw); go_simp; (try with_reducible rfl))
    (try simp only [Act.put, jA, jB, jC])
    refine tkH 25 (v := ?vc30) rfl ?yc30 ?rc30
    case yc30 => (intro w hSw; (try dsimp only at hSw); go_simp; (try with_reducible rfl))
    (try simp only [Act.put, jA, jB, jC])
    refine wpAnyH_ready (rs := [26]) (by kernel_rfl) (by simp) ?_
    refine (AllReadyH.cons rfl (fun K hK => ?_) AllReadyH.nil)
    go_simp
    refine hK.out _ _ (kw_pwk HK.out (fun _ h => h.2.2.2.2.2.2.2) f' hHeld) (fun hHeld2 => ?_)
    clear hK K hHeld
    have hHeld := hHeld2
    clear hHeld2
    (try simp only [Act.put, jA, jB, jC])
    refine wpAnyH_done (by kernel_rfl) ?_ _
    clear hHeld
    have W2 := Lib.hid (show Wst _ { ({ pc := pc, stk := stk, f := ⟨4, p, q, v, fx, y, r⟩, spins := sp, look := lk } : WkS) with f := f' } m' l (pwk (w1.setCell ⟨g, 16, none⟩ (.slice A1 m.length c1)) g f') from by have q := ((H.out.after ZC.out).setM (c' := c1) HR.out HA1.out).pwk f'; rw [HL.out] at q; exact q.st)
    have Z2 := Lib.hid (((((Kb.refl _ _).call hg ZC.out).set 16 (.slice A1 m.length c1)).pwk f').kd)
    change Exit.then _ _ _ _ (pwk (w1.setCell ⟨g, 16, none⟩ (.slice A1 m.length c1)) g f')
    generalize pwk (w1.setCell ⟨g, 16, none⟩ (.slice A1 m.length c1)) g f' = w2 at W2 Z2 ⊢
    obtain ⟨A3, c3, SA3, cs3, E3, ce3, W3⟩ := W2.out
    have W4 := Lib.hid W3
    have C3 := W3.bx.cells
    have fz3 := W3.bx.free
    have hl3 := W3.bx.lt
    clear W3 b0 b1 b2 b3 b4 b5 b6 b7 b8 b9 b10 b11 b12 b13 b14 b15 b16 b17 b18 b19 fz
    obtain ⟨b0, b1, b2, b3, b4, b5, b6, b7, b8, b9, b10, b11, b12, b13, b14, b15, b16, b17, b18, b19⟩ := C3
    obtain ⟨fo, fp, fq, fv', ffx, fy, fr⟩ := f'
    simp only at b0 b1 b2 b3 b4 b5 b6 b7 b8 b9 b10 b11 b12 b13 b14 b15 b16 b17 b18 b19 hl3 fz3
    go_wp2_with fail
    refine (Tells.of (over_any ⟨fo, fp, fq, fv', ffx, fy, fr⟩ _) (v' := .bool b) (by rw [← HQ.out])).mono ?_
    rintro _ w3 ⟨rfl, z3⟩
    have Z3 := Lib.hid z3
    clear z3
    go_wp2
    go_ret
    exact ⟨rfl, (W4.out.after Z3.out).st, Z2.out.trans (((Kb.refl _ _).call hl3 Z3.out).kd)⟩
set_option maxHeartbeats 4000000 in
theorem wends_x (ho : ¬ x.f.op = 0 ∧ ¬ x.f.op = 1 ∧ ¬ x.f.op = 2 ∧ ¬ x.f.op = 3 ∧ ¬ x.f.op = 4) {m' : List Int} {f' : Fr} {b : Bool} (he : callS k.W k.D k.J k.S m x.f = (m', f')) (hq : (f'.res != 0) = b) (hs : m.length ≤ 500) (hu : UM m) (hf : UF x.f) (h : Wst k x m l w) : Calls Tryz.prog 58 #[.pointer (some ⟨k.g, 0, none⟩)] w fun e w' => e = .returned (.bool b) ∧ Wst k { x with f := f' } m' l w' ∧ Kd k.g w w' := by
  have hlen := callS_len k.W k.D k.J k.S m x.f
  rw [he] at hlen
  obtain ⟨A, c, SA, cs, E, ce, h⟩ := h
  have H := Lib.hid h
  have HE0 := Lib.hid he
  have HQ := Lib.hid hq
  have HS := Lib.hid hs
  have HU := Lib.hid hu
  have HF := Lib.hid hf
  have HL := Lib.hid (show m'.length = m.length from hlen)
  clear he hq hs hu hf hlen
  have hg := h.bx.lt
  obtain ⟨a0, a1, a2, a3, a4, a5, a6, a7, a8, a9, a10, a11, a12, a13, a14, a15, a16, a17, a18, a19⟩ := h.bx.cells
  have fz := h.bx.free
  clear h
  obtain ⟨n₀, n₁, g, W, D, J, S, me, d, AT, T, ct⟩ := k
  obtain ⟨pc, stk, ⟨o, p, q, v, fx, y, r⟩, sp, lk⟩ := x
  simp only at ho
  simp only at a0 a1 a2 a3 a4 a5 a6 a7 a8 a9 a10 a11 a12 a13 a14 a15 a16 a17 a18 a19 fz hg ⊢
  have ZC := Lib.hid (Below.refl w.heap.size w).drew
  have HK := Lib.hid (show ∀ x', Kw g w x' → (fun w' => w'.cell? ⟨g, 11, none⟩ = some (.int .i64 W) ∧ w'.cell? ⟨g, 12, none⟩ = some (.int .i64 D) ∧ w'.cell? ⟨g, 13, none⟩ = some (.int .i64 J) ∧ w'.cell? ⟨g, 14, none⟩ = some (.int .i64 S) ∧ w'.cell? ⟨g, 15, none⟩ = some (.slice AT T.length ct) ∧ w'.cell? ⟨g, 17, none⟩ = some (.int .i64 me) ∧ w'.cell? ⟨g, 18, none⟩ = some (.int .u64 d) ∧ Kw g w w') x' from fun x' hx =>
    ⟨(hx.cells 11 (by decide) (by decide) (by decide)).trans a11, (hx.cells 12 (by decide) (by decide) (by decide)).trans a12, (hx.cells 13 (by decide) (by decide) (by decide)).trans a13, (hx.cells 14 (by decide) (by decide) (by decide)).trans a14, (hx.cells 15 (by decide) (by decide) (by decide)).trans a15, (hx.cells 17 (by decide) (by decide) (by decide)).trans a17, (hx.cells 18 (by decide) (by decide) (by decide)).trans a18, hx⟩)
  have hHeld0 := HK.out _ (Kw.refl g w)
  have g0 : (o == 0) = false := by simpa using ho.1
  have g1 : (o == 1) = false := by simpa using ho.2.1
  have g2 : (o == 2) = false := by simpa using ho.2.2.1
  have g3 : (o == 3) = false := by simpa using ho.2.2.2.1
  have g4 : (o == 4) = false := by simpa using ho.2.2.2.2
  have HE := Lib.hid (show evS W D J S m ⟨o, p, q, v, fx, y, r⟩ = (m', f') by rw [← HE0.out]; unfold callS; simp [ho])
  clear ho HE0
  go_enter Tryz.func58, Tryz.ntmps58
  go_upto_region 10 with fail
  refine wp_region_held_drew (S := fun w' => w'.cell? ⟨g, 11, none⟩ = some (.int .i64 W) ∧ w'.cell? ⟨g, 12, none⟩ = some (.int .i64 D) ∧ w'.cell? ⟨g, 13, none⟩ = some (.int .i64 J) ∧ w'.cell? ⟨g, 14, none⟩ = some (.int .i64 S) ∧ w'.cell? ⟨g, 15, none⟩ = some (.slice AT T.length ct) ∧ w'.cell? ⟨g, 17, none⟩ = some (.int .i64 me) ∧ w'.cell? ⟨g, 18, none⟩ = some (.int .u64 d) ∧ Kw g w w') (by kernel_rfl) (kw_drew HK.out (fun _ h => h.2.2.2.2.2.2.2) hHeld0) (fun hHeld => ?_)
  refine tkH 0 (v := ?vc1) rfl ?yc1 ?rc1
  case yc1 => (intro w hSw; (try dsimp only at hSw); go_simp; (try with_reducible rfl))
  (try simp only [Act.put, jA, jB, jC])
  refine tkH 1 (v := ?vc2) rfl ?yc2 ?rc2
  case yc2 => (intro w hSw; (try dsimp only at hSw); go_simp; (try with_reducible rfl))
  (try simp only [Act.put, jA, jB, jC])
  refine tkH 2 (v := ?vc3) rfl ?yc3 ?rc3
  case yc3 => (intro w hSw; (try dsimp only at hSw); go_simp; (try with_reducible rfl))
  (try simp only [Act.put, jA, jB, jC])
  refine tkH 3 (v := ?vc4) rfl ?yc4 ?rc4
  case yc4 => (intro w hSw; (try dsimp only at hSw); go_simp; (try with_reducible rfl))
  (try simp only [Act.put, jA, jB, jC])
  refine tkH 4 (v := ?vc5) rfl ?yc5 ?rc5
  case yc5 => (intro w hSw; (try dsimp only at hSw); go_simp; (try with_reducible rfl))
  (try simp only [Act.put, jA, jB, jC])
  refine tkH 5 (v := ?vc6) rfl ?yc6 ?rc6
  case yc6 => (intro w hSw; (try dsimp only at hSw); go_simp; (try with_reducible rfl))
  (try simp only [Act.put, jA, jB, jC])
  refine tkH 6 (v := ?vc7) rfl ?yc7 ?rc7
  case yc7 => (intro w hSw; (try dsimp only at hSw); go_simp; (try with_reducible rfl))
  (try simp only [Act.put, jA, jB, jC])
  refine tkH 7 (v := ?vc8) rfl ?yc8 ?rc8
  case yc8 => (intro w hSw; (try dsimp only at hSw); go_simp; (try with_reducible rfl))
  (try simp only [Act.put, jA, jB, jC])
  refine tkH 8 (v := ?vc9) rfl ?yc9 ?rc9
  case yc9 => (intro w hSw; (try dsimp only at hSw); go_simp; (try with_reducible rfl))
  (try simp only [Act.put, jA, jB, jC])
  refine tkH 9 (v := ?vc10) rfl ?yc10 ?rc10
  case yc10 => (intro w hSw; (try dsimp only at hSw); go_simp; (try with_reducible rfl))
  (try simp only [Act.put, jA, jB, jC])
  refine tkH 11 (v := ?vc11) rfl ?yc11 ?rc11
  case yc11 => (intro w hSw; (try dsimp only at hSw); go_simp; (try with_reducible rfl))
  (try simp only [Act.put, jA, jB, jC])
  refine tkH 12 (v := ?vc12) rfl ?yc12 ?rc12
  case yc12 => (intro w hSw; (try dsimp only at hSw); go_simp; (try with_reducible rfl))
  (try simp only [Act.put, jA, jB, jC])
  refine tkH 13 (v := ?vc13) rfl ?yc13 ?rc13
  case yc13 => (intro w hSw; (try dsimp only at hSw); go_simp; (try with_reducible rfl))
  (try simp only [Act.put, jA, jB, jC])
  refine tkH 14 (v := ?vc14) rfl ?yc14 ?rc14
  case yc14 => (intro w hSw; (try dsimp only at hSw); go_simp; (try with_reducible rfl))
  (try simp only [Act.put, jA, jB, jC])
  refine wpAnyH_ready (rs := [10, 15]) (by kernel_rfl) (by simp) ?_
  refine (AllReadyH.cons rfl (fun K hK => ?_) (AllReadyH.cons rfl (fun K hK => ?_) AllReadyH.nil))
  · go_simp
    refine hK.out _ _ (hHeld) (fun hHeld2 => ?_)
    clear hK K hHeld
    have hHeld := hHeld2
    clear hHeld2
    (try simp only [Act.put, jA, jB, jC])
    refine wpAnyH_ready (rs := [15]) (by kernel_rfl) (by simp) ?_
    refine (AllReadyH.cons rfl (fun K hK => ?_) AllReadyH.nil)
    go_simp
    refine hK.out _ _ (hHeld) (fun hHeld2 => ?_)
    clear hK K hHeld
    have hHeld := hHeld2
    clear hHeld2
    (try simp only [Act.put, jA, jB, jC])
    refine wpAnyH_ready (rs := [16]) (by kernel_rfl) (by simp) ?_
    refine (AllReadyH.cons rfl (fun K hK => ?_) AllReadyH.nil)
    go_simp
    refine (estep_n (c := c) (H.out.after ZC.out).rm.rd rfl HS.out HU.out HF.out HE.out).mono ?_
    rintro e w1 ⟨A1, c1, rfl, hr, hb⟩
    go_wp2_with fail
    have HR := Lib.hid (show Rx 0 g w1 A1 m' from hr.rx (Nat.zero_le _) (.inl (Nat.lt_of_lt_of_le hg ZC.out.size)))
    have HA1 := Lib.hid (show Apart E A1 m'.length from apart_new (H.out.after ZC.out).re (Nat.le_refl _) (fun hp a ha => by obtain ⟨ad, e, h1, _⟩ := hr hp; rw [ha] at e; injection e with e; subst e; exact h1))
    replace ZC := Lib.hid (keep_call (w2 := w) hb ZC.out)
    have e := (H.out.after ZC.out).bx; obtain ⟨b0, b1, b2, b3, b4, b5, b6, b7, b8, b9, b10, b11, b12, b13, b14, b15, b16, b17, b18, b19⟩ := e.cells; have fz := e.free; simp only at b0 b1 b2 b3 b4 b5 b6 b7 b8 b9 b10 b11 b12 b13 b14 b15 b16 b17 b18 b19; clear e
    clear hr
    refine hK.out _ _ (kw_call HK.out (fun _ h => h.2.2.2.2.2.2.2) hg hb hHeld) (fun hHeld2 => ?_)
    clear hK K hHeld
    have hHeld := hHeld2
    clear hHeld2
    (try simp only [Act.put, jA, jB, jC])
    refine tkH 17 (v := ?vc15) rfl ?yc15 ?rc15
    case yc15 => (intro w hSw; (try dsimp only at hSw); go_simp; (try with_reducible rfl))
    (try simp only [Act.put, jA, jB, jC])
    refine tkH 18 (v := ?vc16) rfl ?yc16 ?rc16
    case yc16 => (intro w hSw; (try dsimp only at hSw); go_simp; (try with_reducible rfl))
    (try simp only [Act.put, jA, jB, jC])
    refine tkH 19 (v := ?vc17) rfl ?yc17 ?rc17
    case yc17 => (intro w hSw; (try dsimp only at hSw); go_simp; (try with_reducible rfl))
    (try simp only [Act.put, jA, jB, jC])
    refine tkH 20 (v := ?vc18) rfl ?yc18 ?rc18
    case yc18 => (intro w hSw; (try dsimp only at hSw); go_simp; (try with_reducible rfl))
    (try simp only [Act.put, jA, jB, jC])
    refine tkH 21 (v := ?vc19) rfl ?yc19 ?rc19
    case yc19 => (intro w hSw; (try dsimp only at hSw); go_simp; (try with_reducible rfl))
    (try simp only [Act.put, jA, jB, jC])
    refine wpAnyH_ready (rs := [22]) (by kernel_rfl) (by simp) ?_
    refine (AllReadyH.cons rfl (fun K hK => ?_) AllReadyH.nil)
    go_simp
    refine hK.out _ _ (kw_set HK.out (fun _ h => h.2.2.2.2.2.2.2) 16 (by decide) _ hHeld) (fun hHeld2 => ?_)
    clear hK K hHeld
    have hHeld := hHeld2
    clear hHeld2
    (try simp only [Act.put, jA, jB, jC])
    refine tkH 23 (v := ?vc20) rfl ?yc20 ?rc20
    case yc20 => (intro w hSw; (try dsimp only at hSw); go_simp; (try with_reducible rfl))
    (try simp only [Act.put, jA, jB, jC])
    refine tkH 24 (v := ?vc21) rfl ?yc21 ?rc21
    case yc21 => (intro w hSw; (try dsimp only at hSw); go_simp; (try with_reducible rfl))
    (try simp only [Act.put, jA, jB, jC])
    refine tkH 25 (v := ?vc22) rfl ?yc22 ?rc22
    case yc22 => (intro w hSw; (try dsimp only at hSw); go_simp; (try with_reducible rfl))
    (try simp only [Act.put, jA, jB, jC])
    refine wpAnyH_ready (rs := [26]) (by kernel_rfl) (by simp) ?_
    refine (AllReadyH.cons rfl (fun K hK => ?_) AllReadyH.nil)
    go_simp
    refine hK.out _ _ (kw_pwk HK.out (fun _ h => h.2.2.2.2.2.2.2) f' hHeld) (fun hHeld2 => ?_)
    clear hK K hHeld
    have hHeld := hHeld2
    clear hHeld2
    (try simp only [Act.put, jA, jB, jC])
    refine wpAnyH_done (by kernel_rfl) ?_ _
    clear hHeld
    have W2 := Lib.hid (show Wst _ { ({ pc := pc, stk := stk, f := ⟨o, p, q, v, fx, y, r⟩, spins := sp, look := lk } : WkS) with f := f' } m' l (pwk (w1.setCell ⟨g, 16, none⟩ (.slice A1 m.length c1)) g f') from by have q := ((H.out.after ZC.out).setM (c' := c1) HR.out HA1.out).pwk f'; rw [HL.out] at q; exact q.st)
    have Z2 := Lib.hid (((((Kb.refl _ _).call hg ZC.out).set 16 (.slice A1 m.length c1)).pwk f').kd)
    change Exit.then _ _ _ _ (pwk (w1.setCell ⟨g, 16, none⟩ (.slice A1 m.length c1)) g f')
    generalize pwk (w1.setCell ⟨g, 16, none⟩ (.slice A1 m.length c1)) g f' = w2 at W2 Z2 ⊢
    obtain ⟨A3, c3, SA3, cs3, E3, ce3, W3⟩ := W2.out
    have W4 := Lib.hid W3
    have C3 := W3.bx.cells
    have fz3 := W3.bx.free
    have hl3 := W3.bx.lt
    clear W3 b0 b1 b2 b3 b4 b5 b6 b7 b8 b9 b10 b11 b12 b13 b14 b15 b16 b17 b18 b19 fz
    obtain ⟨b0, b1, b2, b3, b4, b5, b6, b7, b8, b9, b10, b11, b12, b13, b14, b15, b16, b17, b18, b19⟩ := C3
    obtain ⟨fo, fp, fq, fv', ffx, fy, fr⟩ := f'
    simp only at b0 b1 b2 b3 b4 b5 b6 b7 b8 b9 b10 b11 b12 b13 b14 b15 b16 b17 b18 b19 hl3 fz3
    go_wp2_with fail
    refine (Tells.of (over_any ⟨fo, fp, fq, fv', ffx, fy, fr⟩ _) (v' := .bool b) (by rw [← HQ.out])).mono ?_
    rintro _ w3 ⟨rfl, z3⟩
    have Z3 := Lib.hid z3
    clear z3
    go_wp2
    go_ret
    exact ⟨rfl, (W4.out.after Z3.out).st, Z2.out.trans (((Kb.refl _ _).call hl3 Z3.out).kd)⟩
  · go_simp
    refine hK.out _ _ (hHeld) (fun hHeld2 => ?_)
    clear hK K hHeld
    have hHeld := hHeld2
    clear hHeld2
    (try simp only [Act.put, jA, jB, jC])
    refine wpAnyH_ready (rs := [10]) (by kernel_rfl) (by simp) ?_
    refine (AllReadyH.cons rfl (fun K hK => ?_) AllReadyH.nil)
    go_simp
    refine hK.out _ _ (hHeld) (fun hHeld2 => ?_)
    clear hK K hHeld
    have hHeld := hHeld2
    clear hHeld2
    (try simp only [Act.put, jA, jB, jC])
    refine wpAnyH_ready (rs := [16]) (by kernel_rfl) (by simp) ?_
    refine (AllReadyH.cons rfl (fun K hK => ?_) AllReadyH.nil)
    go_simp
    refine (estep_n (c := c) (H.out.after ZC.out).rm.rd rfl HS.out HU.out HF.out HE.out).mono ?_
    rintro e w1 ⟨A1, c1, rfl, hr, hb⟩
    go_wp2_with fail
    have HR := Lib.hid (show Rx 0 g w1 A1 m' from hr.rx (Nat.zero_le _) (.inl (Nat.lt_of_lt_of_le hg ZC.out.size)))
    have HA1 := Lib.hid (show Apart E A1 m'.length from apart_new (H.out.after ZC.out).re (Nat.le_refl _) (fun hp a ha => by obtain ⟨ad, e, h1, _⟩ := hr hp; rw [ha] at e; injection e with e; subst e; exact h1))
    replace ZC := Lib.hid (keep_call (w2 := w) hb ZC.out)
    have e := (H.out.after ZC.out).bx; obtain ⟨b0, b1, b2, b3, b4, b5, b6, b7, b8, b9, b10, b11, b12, b13, b14, b15, b16, b17, b18, b19⟩ := e.cells; have fz := e.free; simp only at b0 b1 b2 b3 b4 b5 b6 b7 b8 b9 b10 b11 b12 b13 b14 b15 b16 b17 b18 b19; clear e
    clear hr
    refine hK.out _ _ (kw_call HK.out (fun _ h => h.2.2.2.2.2.2.2) hg hb hHeld) (fun hHeld2 => ?_)
    clear hK K hHeld
    have hHeld := hHeld2
    clear hHeld2
    (try simp only [Act.put, jA, jB, jC])
    refine tkH 17 (v := ?vc23) rfl ?yc23 ?rc23
    case yc23 => (intro w hSw; (try dsimp only at hSw); go_simp; (try with_reducible rfl))
    (try simp only [Act.put, jA, jB, jC])
    refine tkH 18 (v := ?vc24) rfl ?yc24 ?rc24
    case yc24 => (intro w hSw; (try dsimp only at hSw); go_simp; (try with_reducible rfl))
    (try simp only [Act.put, jA, jB, jC])
    refine tkH 19 (v := ?vc25) rfl ?yc25 ?rc25
    case yc25 => (intro w hSw; (try dsimp only at hSw); go_simp; (try with_reducible rfl))
    (try simp only [Act.put, jA, jB, jC])
    refine tkH 20 (v := ?vc26) rfl ?yc26 ?rc26
    case yc26 => (intro w hSw; (try dsimp only at hSw); go_simp; (try with_reducible rfl))
    (try simp only [Act.put, jA, jB, jC])
    refine tkH 21 (v := ?vc27) rfl ?yc27 ?rc27
    case yc27 => (intro w hSw; (try dsimp only at hSw); go_simp; (try with_reducible rfl))
    (try simp only [Act.put, jA, jB, jC])
    refine wpAnyH_ready (rs := [22]) (by kernel_rfl) (by simp) ?_
    refine (AllReadyH.cons rfl (fun K hK => ?_) AllReadyH.nil)
    go_simp
    refine hK.out _ _ (kw_set HK.out (fun _ h => h.2.2.2.2.2.2.2) 16 (by decide) _ hHeld) (fun hHeld2 => ?_)
    clear hK K hHeld
    have hHeld := hHeld2
    clear hHeld2
    (try simp only [Act.put, jA, jB, jC])
    refine tkH 23 (v := ?vc28) rfl ?yc28 ?rc28
    case yc28 => (intro w hSw; (try dsimp only at hSw); go_simp; (try with_reducible rfl))
    (try simp only [Act.put, jA, jB, jC])
    refine tkH 24 (v := ?vc29) rfl ?yc29 ?rc29
    case yc29 => (intro w hSw; (try dsimp only at hSw); go_simp; (try with_reducible rfl))
    (try simp only [Act.put, jA, jB, jC])
    refine tkH 25 (v := ?vc30) rfl ?yc30 ?rc30
    case yc30 => (intro w hSw; (try dsimp only at hSw); go_simp; (try with_reducible rfl))
    (try simp only [Act.put, jA, jB, jC])
    refine wpAnyH_ready (rs := [26]) (by kernel_rfl) (by simp) ?_
    refine (AllReadyH.cons rfl (fun K hK => ?_) AllReadyH.nil)
    go_simp
    refine hK.out _ _ (kw_pwk HK.out (fun _ h => h.2.2.2.2.2.2.2) f' hHeld) (fun hHeld2 => ?_)
    clear hK K hHeld
    have hHeld := hHeld2
    clear hHeld2
    (try simp only [Act.put, jA, jB, jC])
    refine wpAnyH_done (by kernel_rfl) ?_ _
    clear hHeld
    have W2 := Lib.hid (show Wst _ { ({ pc := pc, stk := stk, f := ⟨o, p, q, v, fx, y, r⟩, spins := sp, look := lk } : WkS) with f := f' } m' l (pwk (w1.setCell ⟨g, 16, none⟩ (.slice A1 m.length c1)) g f') from by have q := ((H.out.after ZC.out).setM (c' := c1) HR.out HA1.out).pwk f'; rw [HL.out] at q; exact q.st)
    have Z2 := Lib.hid (((((Kb.refl _ _).call hg ZC.out).set 16 (.slice A1 m.length c1)).pwk f').kd)
    change Exit.then _ _ _ _ (pwk (w1.setCell ⟨g, 16, none⟩ (.slice A1 m.length c1)) g f')
    generalize pwk (w1.setCell ⟨g, 16, none⟩ (.slice A1 m.length c1)) g f' = w2 at W2 Z2 ⊢
    obtain ⟨A3, c3, SA3, cs3, E3, ce3, W3⟩ := W2.out
    have W4 := Lib.hid W3
    have C3 := W3.bx.cells
    have fz3 := W3.bx.free
    have hl3 := W3.bx.lt
    clear W3 b0 b1 b2 b3 b4 b5 b6 b7 b8 b9 b10 b11 b12 b13 b14 b15 b16 b17 b18 b19 fz
    obtain ⟨b0, b1, b2, b3, b4, b5, b6, b7, b8, b9, b10, b11, b12, b13, b14, b15, b16, b17, b18, b19⟩ := C3
    obtain ⟨fo, fp, fq, fv', ffx, fy, fr⟩ := f'
    simp only at b0 b1 b2 b3 b4 b5 b6 b7 b8 b9 b10 b11 b12 b13 b14 b15 b16 b17 b18 b19 hl3 fz3
    go_wp2_with fail
    refine (Tells.of (over_any ⟨fo, fp, fq, fv', ffx, fy, fr⟩ _) (v' := .bool b) (by rw [← HQ.out])).mono ?_
    rintro _ w3 ⟨rfl, z3⟩
    have Z3 := Lib.hid z3
    clear z3
    go_wp2
    go_ret
    exact ⟨rfl, (W4.out.after Z3.out).st, Z2.out.trans (((Kb.refl _ _).call hl3 Z3.out).kd)⟩
/-- A step of the call at hand. -/
theorem wends_any {m' : List Int} {f' : Fr} {b : Bool} (he : callS k.W k.D k.J k.S m x.f = (m', f')) (hq : (f'.res != 0) = b) (hs : m.length ≤ 500) (hu : UM m) (hf : UF x.f) (h : Wst k x m l w) : Calls Tryz.prog 58 #[.pointer (some ⟨k.g, 0, none⟩)] w fun e w' => e = .returned (.bool b) ∧ Wst k { x with f := f' } m' l w' ∧ Kd k.g w w' := by
  by_cases h0 : x.f.op = 0
  · exact wends_0 k h0 he hq hs hu hf h
  by_cases h1 : x.f.op = 1
  · exact wends_1 k h1 he hq hs hu hf h
  by_cases h2 : x.f.op = 2
  · exact wends_2 k h2 he hq hs hu hf h
  by_cases h3 : x.f.op = 3
  · exact wends_3 k h3 he hq hs hu hf h
  by_cases h4 : x.f.op = 4
  · exact wends_4 k h4 he hq hs hu hf h
  exact wends_x k ⟨h0, h1, h2, h3, h4⟩ he hq hs hu hf h
end
end Go.Proofs.YtlpkccpijloidaaGreat
