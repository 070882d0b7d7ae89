/- Merged: EnC, EnD, EnE. -/
import Derived.Test.YtlpkccpijloidaaGreatEnX
import Derived.IntWalk
import Derived.Deep.RegionHeld3
import Derived.Test.YtlpkccpijloidaaGreatDqB2
import Derived.Deep.CutRange
import Derived.Deep.DeepCutAuto
namespace Go.Proofs.YtlpkccpijloidaaGreat
set_option linter.unusedSimpArgs false
set_option maxRecDepth 100000
open Go.RowKit Go.Deep
set_option maxHeartbeats 4000000 in
theorem qstoreVal_any (lo g : Nat) (f : Fr) (W D J S : Int) (A : Option Addr) (c : Nat) (l : List Int) (w : World) (hB : Bq w g W D J S (.slice A l.length c) f) (hA : Rx lo g w A l) (hs : l.length ≤ 500) (hlo : lo ≤ w.heap.size) (hx : U f.x) :
    Calls Tryz.prog 145 #[.pointer (some ⟨g, 0, none⟩)] w (Lq lo w g { f with pc := 4 } W D J S (put l (vl W D J S f.x) f.val)) := by
  have HB := Lib.hid hB
  have HA := Lib.hid hA
  have HS := Lib.hid hs
  clear hB hA hs
  obtain ⟨o, p, q, v, x, y, s⟩ := f
  have HX := Lib.hid hx
  clear hx
  have e := HB.out
  obtain ⟨a0, a1, a2, a3, a4, a5, a6, a7, a8, a9, a10, a11⟩ := e.cells
  have fz := e.free
  have hg := e.lt
  have ZC := Lib.hid (Below.refl w.heap.size w).drew
  have HK := Lib.hid (show ∀ x', Kx g 4 w x' → (fun w' => w'.cell? ⟨g, 0, none⟩ = some (.int .i64 W) ∧ w'.cell? ⟨g, 1, none⟩ = some (.int .i64 D) ∧ w'.cell? ⟨g, 2, none⟩ = some (.int .i64 J) ∧ w'.cell? ⟨g, 3, none⟩ = some (.int .i64 S) ∧ w'.cell? ⟨g, 8, none⟩ = some (.int .u64 v) ∧ w'.cell? ⟨g, 9, none⟩ = some (.int .u64 x) ∧ Kx g 4 w w') x' from fun x' hx =>
    ⟨(hx.cells 0 (by decide)).trans a0, (hx.cells 1 (by decide)).trans a1, (hx.cells 2 (by decide)).trans a2, (hx.cells 3 (by decide)).trans a3, (hx.cells 8 (by decide)).trans a8, (hx.cells 9 (by decide)).trans a9, hx⟩)
  have hHeld0 := HK.out _ (Kx.refl g 4 w)
  clear e
  go_enter Tryz.func145, Tryz.ntmps145
  go_wp2_with fail
  refine wp_region_held_drew (S := fun w' => w'.cell? ⟨g, 0, none⟩ = some (.int .i64 W) ∧ w'.cell? ⟨g, 1, none⟩ = some (.int .i64 D) ∧ w'.cell? ⟨g, 2, none⟩ = some (.int .i64 J) ∧ w'.cell? ⟨g, 3, none⟩ = some (.int .i64 S) ∧ w'.cell? ⟨g, 8, none⟩ = some (.int .u64 v) ∧ w'.cell? ⟨g, 9, none⟩ = some (.int .u64 x) ∧ Kx g 4 w w') (by kernel_rfl) (kx_drew HK.out (fun _ h => h.2.2.2.2.2.2) hHeld0) (fun hHeld => ?_)
  refine tkH 0 (v := ?vv1) rfl ?yv1 ?rv1
  case yv1 => (intro w hSw; (try dsimp only at hSw); go_simp; (try with_reducible rfl))
  (try simp only [Act.put, jA, jB, jC])
  refine tkH 1 (v := ?vv2) rfl ?yv2 ?rv2
  case yv2 => (intro w hSw; (try dsimp only at hSw); go_simp; (try with_reducible rfl))
  (try simp only [Act.put, jA, jB, jC])
  refine tkH 2 (v := ?vv3) rfl ?yv3 ?rv3
  case yv3 => (intro w hSw; (try dsimp only at hSw); go_simp; (try with_reducible rfl))
  (try simp only [Act.put, jA, jB, jC])
  refine tkH 3 (v := ?vv4) rfl ?yv4 ?rv4
  case yv4 => (intro w hSw; (try dsimp only at hSw); go_simp; (try with_reducible rfl))
  (try simp only [Act.put, jA, jB, jC])
  refine tkH 5 (v := ?vv5) rfl ?yv5 ?rv5
  case yv5 => (intro w hSw; (try dsimp only at hSw); go_simp; (try with_reducible rfl))
  (try simp only [Act.put, jA, jB, jC])
  refine tkH 6 (v := ?vv6) rfl ?yv6 ?rv6
  case yv6 => (intro w hSw; (try dsimp only at hSw); go_simp; (try with_reducible rfl))
  (try simp only [Act.put, jA, jB, jC])
  refine tkH 7 (v := ?vv7) rfl ?yv7 ?rv7
  case yv7 => (intro w hSw; (try dsimp only at hSw); go_simp; (try with_reducible rfl))
  (try simp only [Act.put, jA, jB, jC])
  refine tkH 8 (v := ?vv8) rfl ?yv8 ?rv8
  case yv8 => (intro w hSw; (try dsimp only at hSw); go_simp; (try with_reducible rfl))
  (try simp only [Act.put, jA, jB, jC])
  refine tkH 9 (v := ?vv9) rfl ?yv9 ?rv9
  case yv9 => (intro w hSw; (try dsimp only at hSw); go_simp; (try with_reducible rfl))
  (try simp only [Act.put, jA, jB, jC])
  refine tkH 10 (v := ?vv10) rfl ?yv10 ?rv10
  case yv10 => (intro w hSw; (try dsimp only at hSw); go_simp; (try with_reducible rfl))
  (try simp only [Act.put, jA, jB, jC])
  refine tkH 11 (v := ?vv11) rfl ?yv11 ?rv11
  case yv11 => (intro w hSw; (try dsimp only at hSw); go_simp; (try with_reducible rfl))
  (try simp only [Act.put, jA, jB, jC])
  refine tkH 12 (v := ?vv12) rfl ?yv12 ?rv12
  case yv12 => (intro w hSw; (try dsimp only at hSw); go_simp; (try with_reducible rfl))
  (try simp only [Act.put, jA, jB, jC])
  refine tkH 13 (v := ?vv13) rfl ?yv13 ?rv13
  case yv13 => (intro w hSw; (try dsimp only at hSw); go_simp; (try with_reducible rfl))
  (try simp only [Act.put, jA, jB, jC])
  refine tkH 15 (v := ?vv14) rfl ?yv14 ?rv14
  case yv14 => (intro w hSw; (try dsimp only at hSw); go_simp; (try with_reducible rfl))
  (try simp only [Act.put, jA, jB, jC])
  refine tkH 16 (v := ?vv15) rfl ?yv15 ?rv15
  case yv15 => (intro w hSw; (try dsimp only at hSw); go_simp; (try with_reducible rfl))
  (try simp only [Act.put, jA, jB, jC])
  refine tkH 17 (v := ?vv16) rfl ?yv16 ?rv16
  case yv16 => (intro w hSw; (try dsimp only at hSw); go_simp; (try with_reducible rfl))
  (try simp only [Act.put, jA, jB, jC])
  refine tkH 18 (v := ?vv17) rfl ?yv17 ?rv17
  case yv17 => (intro w hSw; (try dsimp only at hSw); go_simp; (try with_reducible rfl))
  (try simp only [Act.put, jA, jB, jC])
  refine tkH 19 (v := ?vv18) rfl ?yv18 ?rv18
  case yv18 => (intro w hSw; (try dsimp only at hSw); go_simp; (try with_reducible rfl))
  (try simp only [Act.put, jA, jB, jC])
  refine wpAnyH_ready (rs := [4, 14]) (by kernel_rfl) (by simp) ?_
  refine (AllReadyH.cons rfl (fun K hK => ?_) (AllReadyH.cons rfl (fun K hK => ?_) AllReadyH.nil))
  · go_simp
    refine hK.out _ _ (hHeld) (fun hHeld2 => ?_)
    clear hK K hHeld
    have hHeld := hHeld2
    clear hHeld2
    (try simp only [Act.put, jA, jB, jC])
    refine wpAnyH_ready (rs := [14]) (by kernel_rfl) (by simp) ?_
    refine (AllReadyH.cons rfl (fun K hK => ?_) AllReadyH.nil)
    go_simp
    refine (val_any W D J S x _ HX.out).mono ?_
    rintro e w1 ⟨rfl, hb⟩
    go_wp2_with fail
    replace ZC := Lib.hid (keep_call (w2 := w) hb ZC.out)
    have e := HB.out.after ZC.out; obtain ⟨b0, b1, b2, b3, b4, b5, b6, b7, b8, b9, b10, b11⟩ := e.cells; have fz := e.free; clear e
    refine hK.out _ _ (kx_call HK.out (fun _ h => h.2.2.2.2.2.2) hg hb hHeld) (fun hHeld2 => ?_)
    clear hK K hHeld
    have hHeld := hHeld2
    clear hHeld2
    (try simp only [Act.put, jA, jB, jC])
    refine wpAnyH_ready (rs := [20]) (by kernel_rfl) (by simp) ?_
    refine (AllReadyH.cons rfl (fun K hK => ?_) AllReadyH.nil)
    go_simp
    refine (store_new A l.length c l _ v _ (HA.out.after ZC.out).rd rfl HS.out).mono ?_
    rintro e w2 ⟨k, rfl, hk0, hk, hb⟩
    go_wp2_with fail
    have HLO := Lib.hid (Nat.le_trans hlo (Nat.le_trans ZC.out.size hk0))
    have HKK := Lib.hid hk
    replace ZC := Lib.hid (keep_call (w2 := w) hb ZC.out)
    have e := HB.out.after ZC.out; obtain ⟨b0, b1, b2, b3, b4, b5, b6, b7, b8, b9, b10, b11⟩ := e.cells; have fz := e.free; clear e
    clear hk hk0
    refine hK.out _ _ (kx_call HK.out (fun _ h => h.2.2.2.2.2.2) hg hb hHeld) (fun hHeld2 => ?_)
    clear hK K hHeld
    have hHeld := hHeld2
    clear hHeld2
    (try simp only [Act.put, jA, jB, jC])
    refine tkH 21 (v := ?vv19) rfl ?yv19 ?rv19
    case yv19 => (intro w hSw; (try dsimp only at hSw); go_simp; (try with_reducible rfl))
    (try simp only [Act.put, jA, jB, jC])
    refine tkH 22 (v := ?vv20) rfl ?yv20 ?rv20
    case yv20 => (intro w hSw; (try dsimp only at hSw); go_simp; (try with_reducible rfl))
    (try simp only [Act.put, jA, jB, jC])
    refine wpAnyH_ready (rs := [23]) (by kernel_rfl) (by simp) ?_
    refine (AllReadyH.cons rfl (fun K hK => ?_) AllReadyH.nil)
    go_simp
    refine hK.out _ _ (kx_set HK.out (fun _ h => h.2.2.2.2.2.2) _ hHeld) (fun hHeld2 => ?_)
    clear hK K hHeld
    have hHeld := hHeld2
    clear hHeld2
    (try simp only [Act.put, jA, jB, jC])
    refine wpAnyH_done (by kernel_rfl) ?_ _
    clear hHeld
    go_wp2
    refine bodyPost_ret (by simp [results, Tryz.results145, go_sem]; try rfl) rfl ?_
    have e := HB.out.after ZC.out
    refine ⟨some ⟨k, 0, none⟩, l.length, rfl, ?_, ((HKK.out.rx (HKK.out.ne_q e) HLO.out).set rfl _).set rfl _, ((ZC.out.mono (Nat.le_of_lt hg)).setCell (Nat.le_refl _) _).setCell (Nat.le_refl _) _⟩
    rw [len_put]
    exact (e.setM _).setPc _
  · go_simp
    refine (val_any W D J S x _ HX.out).mono ?_
    rintro e w1 ⟨rfl, hb⟩
    go_wp2_with fail
    replace ZC := Lib.hid (keep_call (w2 := w) hb ZC.out)
    have e := HB.out.after ZC.out; obtain ⟨b0, b1, b2, b3, b4, b5, b6, b7, b8, b9, b10, b11⟩ := e.cells; have fz := e.free; clear e
    refine hK.out _ _ (kx_call HK.out (fun _ h => h.2.2.2.2.2.2) hg hb hHeld) (fun hHeld2 => ?_)
    clear hK K hHeld
    have hHeld := hHeld2
    clear hHeld2
    (try simp only [Act.put, jA, jB, jC])
    refine wpAnyH_ready (rs := [4]) (by kernel_rfl) (by simp) ?_
    refine (AllReadyH.cons rfl (fun K hK => ?_) AllReadyH.nil)
    go_simp
    refine hK.out _ _ (hHeld) (fun hHeld2 => ?_)
    clear hK K hHeld
    have hHeld := hHeld2
    clear hHeld2
    (try simp only [Act.put, jA, jB, jC])
    refine wpAnyH_ready (rs := [20]) (by kernel_rfl) (by simp) ?_
    refine (AllReadyH.cons rfl (fun K hK => ?_) AllReadyH.nil)
    go_simp
    refine (store_new A l.length c l _ v _ (HA.out.after ZC.out).rd rfl HS.out).mono ?_
    rintro e w2 ⟨k, rfl, hk0, hk, hb⟩
    go_wp2_with fail
    have HLO := Lib.hid (Nat.le_trans hlo (Nat.le_trans ZC.out.size hk0))
    have HKK := Lib.hid hk
    replace ZC := Lib.hid (keep_call (w2 := w) hb ZC.out)
    have e := HB.out.after ZC.out; obtain ⟨b0, b1, b2, b3, b4, b5, b6, b7, b8, b9, b10, b11⟩ := e.cells; have fz := e.free; clear e
    clear hk hk0
    refine hK.out _ _ (kx_call HK.out (fun _ h => h.2.2.2.2.2.2) hg hb hHeld) (fun hHeld2 => ?_)
    clear hK K hHeld
    have hHeld := hHeld2
    clear hHeld2
    (try simp only [Act.put, jA, jB, jC])
    refine tkH 21 (v := ?vv21) rfl ?yv21 ?rv21
    case yv21 => (intro w hSw; (try dsimp only at hSw); go_simp; (try with_reducible rfl))
    (try simp only [Act.put, jA, jB, jC])
    refine tkH 22 (v := ?vv22) rfl ?yv22 ?rv22
    case yv22 => (intro w hSw; (try dsimp only at hSw); go_simp; (try with_reducible rfl))
    (try simp only [Act.put, jA, jB, jC])
    refine wpAnyH_ready (rs := [23]) (by kernel_rfl) (by simp) ?_
    refine (AllReadyH.cons rfl (fun K hK => ?_) AllReadyH.nil)
    go_simp
    refine hK.out _ _ (kx_set HK.out (fun _ h => h.2.2.2.2.2.2) _ hHeld) (fun hHeld2 => ?_)
    clear hK K hHeld
    have hHeld := hHeld2
    clear hHeld2
    (try simp only [Act.put, jA, jB, jC])
    refine wpAnyH_done (by kernel_rfl) ?_ _
    clear hHeld
    go_wp2
    refine bodyPost_ret (by simp [results, Tryz.results145, go_sem]; try rfl) rfl ?_
    have e := HB.out.after ZC.out
    refine ⟨some ⟨k, 0, none⟩, l.length, rfl, ?_, ((HKK.out.rx (HKK.out.ne_q e) HLO.out).set rfl _).set rfl _, ((ZC.out.mono (Nat.le_of_lt hg)).setCell (Nat.le_refl _) _).setCell (Nat.le_refl _) _⟩
    rw [len_put]
    exact (e.setM _).setPc _
set_option maxHeartbeats 4000000 in
theorem storeSeq_any (lo g : Nat) (f : Fr) (W D J S : Int) (T : Int) (A : Option Addr) (c : Nat) (l : List Int) (w : World) (hB : Bq w g W D J S (.slice A l.length c) f) (hA : Rx lo g w A l) (hs : l.length ≤ 500) (hlo : lo ≤ w.heap.size) (hJ : 1 ≤ J ∧ J ≤ 16) (hx : U f.x) (hT : (tw J f.x + 1) % 18446744073709551616 = T) :
    Calls Tryz.prog 146 #[.pointer (some ⟨g, 0, none⟩)] w (Lq lo w g (ed f 1 f.val) W D J S (put l (sq W D J S f.x) T)) := by
  have HB := Lib.hid hB
  have HA := Lib.hid hA
  have HS := Lib.hid hs
  clear hB hA hs
  obtain ⟨o, p, q, v, x, y, s⟩ := f
  simp only at hT hx
  have HX := Lib.hid hx
  have HJ := Lib.hid hJ
  have hw1 : IntKind.u64.wrap (tw J x % 18446744073709551616 + 1) = T := by rw [IntKind.wrap_u64, ← hT]; omega
  obtain ⟨t, ht⟩ : ∃ t, t = tw J x % 18446744073709551616 := ⟨_, rfl⟩
  rw [← ht] at hw1
  have HTT := Lib.hid ht
  clear hx hJ hT ht
  show Calls _ _ _ _ (Lq lo w g (ed ⟨o, p, q, v, x, y, s⟩ 1 v) W D J S (put l (sq W D J S x) T))
  have e := HB.out
  obtain ⟨a0, a1, a2, a3, a4, a5, a6, a7, a8, a9, a10, a11⟩ := e.cells
  have fz := e.free
  have hg := e.lt
  have ZC := Lib.hid (Below.refl w.heap.size w).drew
  have HK := Lib.hid (show ∀ x', Kx g 4 w x' → (fun w' => w'.cell? ⟨g, 0, none⟩ = some (.int .i64 W) ∧ w'.cell? ⟨g, 1, none⟩ = some (.int .i64 D) ∧ w'.cell? ⟨g, 2, none⟩ = some (.int .i64 J) ∧ w'.cell? ⟨g, 3, none⟩ = some (.int .i64 S) ∧ w'.cell? ⟨g, 9, none⟩ = some (.int .u64 x) ∧ Kx g 4 w w') x' from fun x' hx =>
    ⟨(hx.cells 0 (by decide)).trans a0, (hx.cells 1 (by decide)).trans a1, (hx.cells 2 (by decide)).trans a2, (hx.cells 3 (by decide)).trans a3, (hx.cells 9 (by decide)).trans a9, hx⟩)
  have hHeld0 := HK.out _ (Kx.refl g 4 w)
  clear e
  go_enter Tryz.func146, Tryz.ntmps146
  go_wp2_with fail
  refine wp_region_held_drew (S := fun w' => w'.cell? ⟨g, 0, none⟩ = some (.int .i64 W) ∧ w'.cell? ⟨g, 1, none⟩ = some (.int .i64 D) ∧ w'.cell? ⟨g, 2, none⟩ = some (.int .i64 J) ∧ w'.cell? ⟨g, 3, none⟩ = some (.int .i64 S) ∧ w'.cell? ⟨g, 9, none⟩ = some (.int .u64 x) ∧ Kx g 4 w w') (by kernel_rfl) (kx_drew HK.out (fun _ h => h.2.2.2.2.2) hHeld0) (fun hHeld => ?_)
  refine tkH 0 (v := ?vq1) rfl ?yq1 ?rq1
  case yq1 => (intro w hSw; (try dsimp only at hSw); go_simp; (try with_reducible rfl))
  (try simp only [Act.put, jA, jB, jC])
  refine tkH 1 (v := ?vq2) rfl ?yq2 ?rq2
  case yq2 => (intro w hSw; (try dsimp only at hSw); go_simp; (try with_reducible rfl))
  (try simp only [Act.put, jA, jB, jC])
  refine tkH 2 (v := ?vq3) rfl ?yq3 ?rq3
  case yq3 => (intro w hSw; (try dsimp only at hSw); go_simp; (try with_reducible rfl))
  (try simp only [Act.put, jA, jB, jC])
  refine tkH 3 (v := ?vq4) rfl ?yq4 ?rq4
  case yq4 => (intro w hSw; (try dsimp only at hSw); go_simp; (try with_reducible rfl))
  (try simp only [Act.put, jA, jB, jC])
  refine tkH 5 (v := ?vq5) rfl ?yq5 ?rq5
  case yq5 => (intro w hSw; (try dsimp only at hSw); go_simp; (try with_reducible rfl))
  (try simp only [Act.put, jA, jB, jC])
  refine tkH 6 (v := ?vq6) rfl ?yq6 ?rq6
  case yq6 => (intro w hSw; (try dsimp only at hSw); go_simp; (try with_reducible rfl))
  (try simp only [Act.put, jA, jB, jC])
  refine tkH 7 (v := ?vq7) rfl ?yq7 ?rq7
  case yq7 => (intro w hSw; (try dsimp only at hSw); go_simp; (try with_reducible rfl))
  (try simp only [Act.put, jA, jB, jC])
  refine tkH 8 (v := ?vq8) rfl ?yq8 ?rq8
  case yq8 => (intro w hSw; (try dsimp only at hSw); go_simp; (try with_reducible rfl))
  (try simp only [Act.put, jA, jB, jC])
  refine tkH 9 (v := ?vq9) rfl ?yq9 ?rq9
  case yq9 => (intro w hSw; (try dsimp only at hSw); go_simp; (try with_reducible rfl))
  (try simp only [Act.put, jA, jB, jC])
  refine tkH 10 (v := ?vq10) rfl ?yq10 ?rq10
  case yq10 => (intro w hSw; (try dsimp only at hSw); go_simp; (try with_reducible rfl))
  (try simp only [Act.put, jA, jB, jC])
  refine tkH 11 (v := ?vq11) rfl ?yq11 ?rq11
  case yq11 => (intro w hSw; (try dsimp only at hSw); go_simp; (try with_reducible rfl))
  (try simp only [Act.put, jA, jB, jC])
  refine tkH 12 (v := ?vq12) rfl ?yq12 ?rq12
  case yq12 => (intro w hSw; (try dsimp only at hSw); go_simp; (try with_reducible rfl))
  (try simp only [Act.put, jA, jB, jC])
  refine tkH 13 (v := ?vq13) rfl ?yq13 ?rq13
  case yq13 => (intro w hSw; (try dsimp only at hSw); go_simp; (try with_reducible rfl))
  (try simp only [Act.put, jA, jB, jC])
  refine tkH 15 (v := ?vq14) rfl ?yq14 ?rq14
  case yq14 => (intro w hSw; (try dsimp only at hSw); go_simp; (try with_reducible rfl))
  (try simp only [Act.put, jA, jB, jC])
  refine wpAnyH_ready (rs := [4, 14]) (by kernel_rfl) (by simp) ?_
  refine (AllReadyH.cons rfl (fun K hK => ?_) (AllReadyH.cons rfl (fun K hK => ?_) AllReadyH.nil))
  · go_simp
    refine hK.out _ _ (hHeld) (fun hHeld2 => ?_)
    clear hK K hHeld
    have hHeld := hHeld2
    clear hHeld2
    (try simp only [Act.put, jA, jB, jC])
    refine wpAnyH_ready (rs := [14]) (by kernel_rfl) (by simp) ?_
    refine (AllReadyH.cons rfl (fun K hK => ?_) AllReadyH.nil)
    go_simp
    refine (seq_any W D J S x _ HX.out).mono ?_
    rintro e w1 ⟨rfl, hb⟩
    go_wp2_with fail
    replace ZC := Lib.hid (keep_call (w2 := w) hb ZC.out)
    have e := HB.out.after ZC.out; obtain ⟨b0, b1, b2, b3, b4, b5, b6, b7, b8, b9, b10, b11⟩ := e.cells; have fz := e.free; clear e
    refine hK.out _ _ (kx_call HK.out (fun _ h => h.2.2.2.2.2) hg hb hHeld) (fun hHeld2 => ?_)
    clear hK K hHeld
    have hHeld := hHeld2
    clear hHeld2
    (try simp only [Act.put, jA, jB, jC])
    refine wpAnyH_ready (rs := [16]) (by kernel_rfl) (by simp) ?_
    refine (AllReadyH.cons rfl (fun K hK => ?_) AllReadyH.nil)
    go_simp
    refine (ret_of (qfree_any g W D J S _ _ _ (HB.out.after ZC.out) HJ.out HX.out) (v' := .int .u64 t) (by rw [HTT.out])).mono ?_
    rintro e w3 ⟨rfl, hb⟩
    go_wp2_with fail
    replace ZC := Lib.hid (keep_call (w2 := w) hb ZC.out)
    have e := HB.out.after ZC.out; obtain ⟨b0, b1, b2, b3, b4, b5, b6, b7, b8, b9, b10, b11⟩ := e.cells; have fz := e.free; clear e
    refine hK.out _ _ (kx_call HK.out (fun _ h => h.2.2.2.2.2) hg hb hHeld) (fun hHeld2 => ?_)
    clear hK K hHeld
    have hHeld := hHeld2
    clear hHeld2
    (try simp only [Act.put, jA, jB, jC])
    refine tkH 17 (v := ?vq15) rfl ?yq15 ?rq15
    case yq15 => (intro w hSw; (try dsimp only at hSw); go_simp; (try with_reducible rfl))
    (try simp only [Act.put, jA, jB, jC])
    refine wpAnyH_ready (rs := [18]) (by kernel_rfl) (by simp) ?_
    refine (AllReadyH.cons rfl (fun K hK => ?_) AllReadyH.nil)
    go_simp
    refine (store_new A l.length c l _ T _ (HA.out.after ZC.out).rd rfl HS.out).mono ?_
    rintro e w2 ⟨k, rfl, hk0, hk, hb⟩
    go_wp2_with fail
    have HLO := Lib.hid (Nat.le_trans hlo (Nat.le_trans ZC.out.size hk0))
    have HKK := Lib.hid hk
    replace ZC := Lib.hid (keep_call (w2 := w) hb ZC.out)
    have e := HB.out.after ZC.out; obtain ⟨b0, b1, b2, b3, b4, b5, b6, b7, b8, b9, b10, b11⟩ := e.cells; have fz := e.free; clear e
    clear hk hk0
    refine hK.out _ _ (kx_call HK.out (fun _ h => h.2.2.2.2.2) hg hb hHeld) (fun hHeld2 => ?_)
    clear hK K hHeld
    have hHeld := hHeld2
    clear hHeld2
    (try simp only [Act.put, jA, jB, jC])
    refine tkH 19 (v := ?vq16) rfl ?yq16 ?rq16
    case yq16 => (intro w hSw; (try dsimp only at hSw); go_simp; (try with_reducible rfl))
    (try simp only [Act.put, jA, jB, jC])
    refine tkH 20 (v := ?vq17) rfl ?yq17 ?rq17
    case yq17 => (intro w hSw; (try dsimp only at hSw); go_simp; (try with_reducible rfl))
    (try simp only [Act.put, jA, jB, jC])
    refine wpAnyH_ready (rs := [21]) (by kernel_rfl) (by simp) ?_
    refine (AllReadyH.cons rfl (fun K hK => ?_) AllReadyH.nil)
    go_simp
    refine hK.out _ _ (kx_set HK.out (fun _ h => h.2.2.2.2.2) _ hHeld) (fun hHeld2 => ?_)
    clear hK K hHeld
    have hHeld := hHeld2
    clear hHeld2
    (try simp only [Act.put, jA, jB, jC])
    refine wpAnyH_done (by kernel_rfl) ?_ _
    clear hHeld
    go_wp2_with fail
    have e := HB.out.after ZC.out
    have e2 : Bq (w2.setCell ⟨g, 4, none⟩ (.slice (some ⟨k, 0, none⟩) l.length l.length)) g W D J S (.slice (some ⟨k, 0, none⟩) (put l (sq W D J S x) T).length l.length) ⟨o, p, q, v, x, y, s⟩ := by rw [len_put]; exact e.setM _
    refine (qend_any lo g ⟨o, p, q, v, x, y, s⟩ W D J S 1 _ _ (put l (sq W D J S x) T) _ e2 ((HKK.out.rx (HKK.out.ne_q e) HLO.out).set rfl _)).mono ?_
    rintro _ w5 ⟨A', c', rfl, hb5, ha5, hbe5⟩
    go_wp2
    refine bodyPost_ret (by simp [results, Tryz.results146, go_sem]; try rfl) rfl ?_
    exact ⟨A', c', rfl, hb5, ha5, ((ZC.out.mono (Nat.le_of_lt hg)).setCell (Nat.le_refl _) _).trans hbe5⟩
  · go_simp
    refine (seq_any W D J S x _ HX.out).mono ?_
    rintro e w1 ⟨rfl, hb⟩
    go_wp2_with fail
    replace ZC := Lib.hid (keep_call (w2 := w) hb ZC.out)
    have e := HB.out.after ZC.out; obtain ⟨b0, b1, b2, b3, b4, b5, b6, b7, b8, b9, b10, b11⟩ := e.cells; have fz := e.free; clear e
    refine hK.out _ _ (kx_call HK.out (fun _ h => h.2.2.2.2.2) hg hb hHeld) (fun hHeld2 => ?_)
    clear hK K hHeld
    have hHeld := hHeld2
    clear hHeld2
    (try simp only [Act.put, jA, jB, jC])
    refine wpAnyH_ready (rs := [4, 16]) (by kernel_rfl) (by simp) ?_
    refine (AllReadyH.cons rfl (fun K hK => ?_) (AllReadyH.cons rfl (fun K hK => ?_) AllReadyH.nil))
    · go_simp
      refine hK.out _ _ (hHeld) (fun hHeld2 => ?_)
      clear hK K hHeld
      have hHeld := hHeld2
      clear hHeld2
      (try simp only [Act.put, jA, jB, jC])
      refine wpAnyH_ready (rs := [16]) (by kernel_rfl) (by simp) ?_
      refine (AllReadyH.cons rfl (fun K hK => ?_) AllReadyH.nil)
      go_simp
      refine (ret_of (qfree_any g W D J S _ _ _ (HB.out.after ZC.out) HJ.out HX.out) (v' := .int .u64 t) (by rw [HTT.out])).mono ?_
      rintro e w3 ⟨rfl, hb⟩
      go_wp2_with fail
      replace ZC := Lib.hid (keep_call (w2 := w) hb ZC.out)
      have e := HB.out.after ZC.out; obtain ⟨b0, b1, b2, b3, b4, b5, b6, b7, b8, b9, b10, b11⟩ := e.cells; have fz := e.free; clear e
      refine hK.out _ _ (kx_call HK.out (fun _ h => h.2.2.2.2.2) hg hb hHeld) (fun hHeld2 => ?_)
      clear hK K hHeld
      have hHeld := hHeld2
      clear hHeld2
      (try simp only [Act.put, jA, jB, jC])
      refine tkH 17 (v := ?vq18) rfl ?yq18 ?rq18
      case yq18 => (intro w hSw; (try dsimp only at hSw); go_simp; (try with_reducible rfl))
      (try simp only [Act.put, jA, jB, jC])
      refine wpAnyH_ready (rs := [18]) (by kernel_rfl) (by simp) ?_
      refine (AllReadyH.cons rfl (fun K hK => ?_) AllReadyH.nil)
      go_simp
      refine (store_new A l.length c l _ T _ (HA.out.after ZC.out).rd rfl HS.out).mono ?_
      rintro e w2 ⟨k, rfl, hk0, hk, hb⟩
      go_wp2_with fail
      have HLO := Lib.hid (Nat.le_trans hlo (Nat.le_trans ZC.out.size hk0))
      have HKK := Lib.hid hk
      replace ZC := Lib.hid (keep_call (w2 := w) hb ZC.out)
      have e := HB.out.after ZC.out; obtain ⟨b0, b1, b2, b3, b4, b5, b6, b7, b8, b9, b10, b11⟩ := e.cells; have fz := e.free; clear e
      clear hk hk0
      refine hK.out _ _ (kx_call HK.out (fun _ h => h.2.2.2.2.2) hg hb hHeld) (fun hHeld2 => ?_)
      clear hK K hHeld
      have hHeld := hHeld2
      clear hHeld2
      (try simp only [Act.put, jA, jB, jC])
      refine tkH 19 (v := ?vq19) rfl ?yq19 ?rq19
      case yq19 => (intro w hSw; (try dsimp only at hSw); go_simp; (try with_reducible rfl))
      (try simp only [Act.put, jA, jB, jC])
      refine tkH 20 (v := ?vq20) rfl ?yq20 ?rq20
      case yq20 => (intro w hSw; (try dsimp only at hSw); go_simp; (try with_reducible rfl))
      (try simp only [Act.put, jA, jB, jC])
      refine wpAnyH_ready (rs := [21]) (by kernel_rfl) (by simp) ?_
      refine (AllReadyH.cons rfl (fun K hK => ?_) AllReadyH.nil)
      go_simp
      refine hK.out _ _ (kx_set HK.out (fun _ h => h.2.2.2.2.2) _ hHeld) (fun hHeld2 => ?_)
      clear hK K hHeld
      have hHeld := hHeld2
      clear hHeld2
      (try simp only [Act.put, jA, jB, jC])
      refine wpAnyH_done (by kernel_rfl) ?_ _
      clear hHeld
      go_wp2_with fail
      have e := HB.out.after ZC.out
      have e2 : Bq (w2.setCell ⟨g, 4, none⟩ (.slice (some ⟨k, 0, none⟩) l.length l.length)) g W D J S (.slice (some ⟨k, 0, none⟩) (put l (sq W D J S x) T).length l.length) ⟨o, p, q, v, x, y, s⟩ := by rw [len_put]; exact e.setM _
      refine (qend_any lo g ⟨o, p, q, v, x, y, s⟩ W D J S 1 _ _ (put l (sq W D J S x) T) _ e2 ((HKK.out.rx (HKK.out.ne_q e) HLO.out).set rfl _)).mono ?_
      rintro _ w5 ⟨A', c', rfl, hb5, ha5, hbe5⟩
      go_wp2
      refine bodyPost_ret (by simp [results, Tryz.results146, go_sem]; try rfl) rfl ?_
      exact ⟨A', c', rfl, hb5, ha5, ((ZC.out.mono (Nat.le_of_lt hg)).setCell (Nat.le_refl _) _).trans hbe5⟩
    · go_simp
      refine (ret_of (qfree_any g W D J S _ _ _ (HB.out.after ZC.out) HJ.out HX.out) (v' := .int .u64 t) (by rw [HTT.out])).mono ?_
      rintro e w3 ⟨rfl, hb⟩
      go_wp2_with fail
      replace ZC := Lib.hid (keep_call (w2 := w) hb ZC.out)
      have e := HB.out.after ZC.out; obtain ⟨b0, b1, b2, b3, b4, b5, b6, b7, b8, b9, b10, b11⟩ := e.cells; have fz := e.free; clear e
      refine hK.out _ _ (kx_call HK.out (fun _ h => h.2.2.2.2.2) hg hb hHeld) (fun hHeld2 => ?_)
      clear hK K hHeld
      have hHeld := hHeld2
      clear hHeld2
      (try simp only [Act.put, jA, jB, jC])
      refine tkH 17 (v := ?vq21) rfl ?yq21 ?rq21
      case yq21 => (intro w hSw; (try dsimp only at hSw); go_simp; (try with_reducible rfl))
      (try simp only [Act.put, jA, jB, jC])
      refine wpAnyH_ready (rs := [4]) (by kernel_rfl) (by simp) ?_
      refine (AllReadyH.cons rfl (fun K hK => ?_) AllReadyH.nil)
      go_simp
      refine hK.out _ _ (hHeld) (fun hHeld2 => ?_)
      clear hK K hHeld
      have hHeld := hHeld2
      clear hHeld2
      (try simp only [Act.put, jA, jB, jC])
      refine wpAnyH_ready (rs := [18]) (by kernel_rfl) (by simp) ?_
      refine (AllReadyH.cons rfl (fun K hK => ?_) AllReadyH.nil)
      go_simp
      refine (store_new A l.length c l _ T _ (HA.out.after ZC.out).rd rfl HS.out).mono ?_
      rintro e w2 ⟨k, rfl, hk0, hk, hb⟩
      go_wp2_with fail
      have HLO := Lib.hid (Nat.le_trans hlo (Nat.le_trans ZC.out.size hk0))
      have HKK := Lib.hid hk
      replace ZC := Lib.hid (keep_call (w2 := w) hb ZC.out)
      have e := HB.out.after ZC.out; obtain ⟨b0, b1, b2, b3, b4, b5, b6, b7, b8, b9, b10, b11⟩ := e.cells; have fz := e.free; clear e
      clear hk hk0
      refine hK.out _ _ (kx_call HK.out (fun _ h => h.2.2.2.2.2) hg hb hHeld) (fun hHeld2 => ?_)
      clear hK K hHeld
      have hHeld := hHeld2
      clear hHeld2
      (try simp only [Act.put, jA, jB, jC])
      refine tkH 19 (v := ?vq22) rfl ?yq22 ?rq22
      case yq22 => (intro w hSw; (try dsimp only at hSw); go_simp; (try with_reducible rfl))
      (try simp only [Act.put, jA, jB, jC])
      refine tkH 20 (v := ?vq23) rfl ?yq23 ?rq23
      case yq23 => (intro w hSw; (try dsimp only at hSw); go_simp; (try with_reducible rfl))
      (try simp only [Act.put, jA, jB, jC])
      refine wpAnyH_ready (rs := [21]) (by kernel_rfl) (by simp) ?_
      refine (AllReadyH.cons rfl (fun K hK => ?_) AllReadyH.nil)
      go_simp
      refine hK.out _ _ (kx_set HK.out (fun _ h => h.2.2.2.2.2) _ hHeld) (fun hHeld2 => ?_)
      clear hK K hHeld
      have hHeld := hHeld2
      clear hHeld2
      (try simp only [Act.put, jA, jB, jC])
      refine wpAnyH_done (by kernel_rfl) ?_ _
      clear hHeld
      go_wp2_with fail
      have e := HB.out.after ZC.out
      have e2 : Bq (w2.setCell ⟨g, 4, none⟩ (.slice (some ⟨k, 0, none⟩) l.length l.length)) g W D J S (.slice (some ⟨k, 0, none⟩) (put l (sq W D J S x) T).length l.length) ⟨o, p, q, v, x, y, s⟩ := by rw [len_put]; exact e.setM _
      refine (qend_any lo g ⟨o, p, q, v, x, y, s⟩ W D J S 1 _ _ (put l (sq W D J S x) T) _ e2 ((HKK.out.rx (HKK.out.ne_q e) HLO.out).set rfl _)).mono ?_
      rintro _ w5 ⟨A', c', rfl, hb5, ha5, hbe5⟩
      go_wp2
      refine bodyPost_ret (by simp [results, Tryz.results146, go_sem]; try rfl) rfl ?_
      exact ⟨A', c', rfl, hb5, ha5, ((ZC.out.mono (Nat.le_of_lt hg)).setCell (Nat.le_refl _) _).trans hbe5⟩
end Go.Proofs.YtlpkccpijloidaaGreat
namespace Go.Proofs.YtlpkccpijloidaaGreat
set_option linter.unusedSimpArgs false
set_option maxRecDepth 100000
open Go.RowKit Go.Deep
theorem qthere_any (W D J S : Int) (A : Option Addr) (n c : Nat) (m : List Int) (w : World) (hn : m.length = n) : Tells 141 #[cf W D J S, .slice A n c] w (.bool (okm W D J S m)) := by
  have hs : ((n : Int) == sz W D J S) = decide ((m.length : Int) = sz W D J S) := by rw [hn]; exact Bool.eq_iff_iff.2 (by simp)
  unfold okm
  cases h1 : may W D J S
  · have HM := Lib.hid h1
    rw [show (false && decide ((m.length : Int) = sz W D J S)) = false by simp]
    clear h1 hs hn
    go_enter Tryz.func141, Tryz.ntmps141
    go_wp2_with fail
    refine (Tells.of (may_any W D J S _) (v' := .bool false) (by rw [HM.out])).mono ?_
    rintro _ w1 ⟨rfl, z1⟩
    have HZ := Lib.hid ((box_below w _).trans (z1.mono (by simp)))
    clear z1
    go_wp2
    go_ret
    exact ⟨rfl, HZ.out⟩
  · have HM := Lib.hid h1
    have hz : sz W D J S = bg D J W := by unfold sz; rw [h1]; rfl
    rw [hz] at hs
    have HZ0 := Lib.hid h1
    rw [hz, show (true && decide ((m.length : Int) = bg D J W)) = ((n : Int) == bg D J W) by rw [hs]; simp]
    clear h1 hz hn hs
    go_enter Tryz.func141, Tryz.ntmps141
    go_wp2_with fail
    refine (Tells.of (may_any W D J S _) (v' := .bool true) (by rw [HM.out])).mono ?_
    rintro _ w1 ⟨rfl, z1⟩
    have HZ := Lib.hid ((box_below w _).trans (z1.mono (by simp)))
    obtain ⟨g0, c0, c1, c2, c3⟩ := (Bx.mk w W D J S 23).below z1
    clear z1
    go_wp2_with fail
    refine (size_yes W D J S _ HZ0.out).mono ?_
    rintro _ w2 ⟨rfl, z2⟩
    have HZ2 := Lib.hid (HZ.out.trans (z2.mono HZ.out.size))
    clear z2
    go_wp2
    go_ret
    exact ⟨rfl, HZ2.out⟩
theorem qgoes_any (W D J S op : Int) (A : Option Addr) (n c : Nat) (m : List Int) (f : Fr) (w : World) (hn : m.length = n) : Tells 107 #[cf W D J S, .slice A n c, fv f, .int .i64 op] w (.bool (goesE W D J S m f op)) := by
  obtain ⟨BX, BF, Z, hz⟩ := boxes2 w W D J S f
  have h1 : w.heap.size < (bxc w W D J S f).heap.size := by omega
  have h2 : w.heap.size + 1 < (bxc w W D J S f).heap.size := by omega
  unfold goesE
  obtain ⟨o, p, q, v, x, y, s⟩ := f
  have h5 : decide (p ≤ 4) = decide (p < 5) := by rw [Bool.eq_iff_iff]; simp; omega
  simp only
  rw [h5]
  cases e1 : okm W D J S m
  · cases e2 : (s != 0)
    all_goals
      rw [show (false && decide (s = 0) && decide (o = op) && decide (0 ≤ p) && decide (p < 5)) = false by simp]
      have HE := Lib.hid e1
      have HV := Lib.hid e2
      clear e1 e2 h5
      go_enter Tryz.func107, Tryz.ntmps107
      go_wp2_with fail
      change Calls _ _ _ (bxc w W D J S ⟨o, p, q, v, x, y, s⟩) _
      generalize bxc w W D J S ⟨o, p, q, v, x, y, s⟩ = w0 at BX BF Z hz h1 h2 ⊢
      refine (Tells.of (qthere_any W D J S A n c m _ hn) (v' := .bool false) (by rw [HE.out])).mono ?_
      rintro _ w1 ⟨rfl, z1⟩
      obtain ⟨a0, a1, a2, a3, a4, a5, a6⟩ := (BF.below z1 h2).cells
      have HZ := Lib.hid (Z.trans (z1.mono (by omega)))
      clear z1
      go_wp2
      go_ret
      exact ⟨rfl, HZ.out⟩
  · cases e2 : (s != 0)
    · have e3 : decide (s = 0) = true := by simpa using e2
      cases e4 : (o == op)
      · rw [show (true && decide (s = 0) && decide (o = op) && decide (0 ≤ p) && decide (p < 5)) = false by
          have : decide (o = op) = false := by simpa using e4
          simp [this]]
        have HE := Lib.hid e1
        have HV := Lib.hid e2
        clear e1 e2 e3 h5
        go_enter Tryz.func107, Tryz.ntmps107
        go_wp2_with fail
        change Calls _ _ _ (bxc w W D J S ⟨o, p, q, v, x, y, s⟩) _
        generalize bxc w W D J S ⟨o, p, q, v, x, y, s⟩ = w0 at BX BF Z hz h1 h2 ⊢
        refine (Tells.of (qthere_any W D J S A n c m _ hn) (v' := .bool true) (by rw [HE.out])).mono ?_
        rintro _ w1 ⟨rfl, z1⟩
        obtain ⟨a0, a1, a2, a3, a4, a5, a6⟩ := (BF.below z1 h2).cells
        go_wp2_with fail
        refine (Tells.of (over_any ⟨o, p, q, v, x, y, s⟩ _) (v' := .bool false) (by rw [← HV.out])).mono ?_
        rintro _ w2 ⟨rfl, z2⟩
        have z3 := keep_call (w2 := w0) z2 z1
        obtain ⟨a0, a1, a2, a3, a4, a5, a6⟩ := (BF.below z3 h2).cells
        have HZ := Lib.hid (Z.trans (z3.mono (by omega)))
        clear z1 z2 z3
        go_wp2
        go_ret
        exact ⟨rfl, HZ.out⟩
      · cases e5 : decide (0 ≤ p)
        · rw [show (true && decide (s = 0) && decide (o = op) && false && decide (p < 5)) = false by simp]
          have HE := Lib.hid e1
          have HV := Lib.hid e2
          clear e1 e2 e3 h5
          go_enter Tryz.func107, Tryz.ntmps107
          go_wp2_with fail
          change Calls _ _ _ (bxc w W D J S ⟨o, p, q, v, x, y, s⟩) _
          generalize bxc w W D J S ⟨o, p, q, v, x, y, s⟩ = w0 at BX BF Z hz h1 h2 ⊢
          refine (Tells.of (qthere_any W D J S A n c m _ hn) (v' := .bool true) (by rw [HE.out])).mono ?_
          rintro _ w1 ⟨rfl, z1⟩
          obtain ⟨a0, a1, a2, a3, a4, a5, a6⟩ := (BF.below z1 h2).cells
          go_wp2_with fail
          refine (Tells.of (over_any ⟨o, p, q, v, x, y, s⟩ _) (v' := .bool false) (by rw [← HV.out])).mono ?_
          rintro _ w2 ⟨rfl, z2⟩
          have z3 := keep_call (w2 := w0) z2 z1
          obtain ⟨a0, a1, a2, a3, a4, a5, a6⟩ := (BF.below z3 h2).cells
          have HZ := Lib.hid (Z.trans (z3.mono (by omega)))
          clear z1 z2 z3
          go_wp2
          go_ret
          exact ⟨rfl, HZ.out⟩
        · rw [show (true && decide (s = 0) && decide (o = op) && true && decide (p < 5)) = decide (p < 5) by
            have : decide (o = op) = true := by simpa using e4
            simp [this, e3]]
          have HE := Lib.hid e1
          have HV := Lib.hid e2
          clear e1 e2 e3 h5
          go_enter Tryz.func107, Tryz.ntmps107
          go_wp2_with fail
          change Calls _ _ _ (bxc w W D J S ⟨o, p, q, v, x, y, s⟩) _
          generalize bxc w W D J S ⟨o, p, q, v, x, y, s⟩ = w0 at BX BF Z hz h1 h2 ⊢
          refine (Tells.of (qthere_any W D J S A n c m _ hn) (v' := .bool true) (by rw [HE.out])).mono ?_
          rintro _ w1 ⟨rfl, z1⟩
          obtain ⟨a0, a1, a2, a3, a4, a5, a6⟩ := (BF.below z1 h2).cells
          go_wp2_with fail
          refine (Tells.of (over_any ⟨o, p, q, v, x, y, s⟩ _) (v' := .bool false) (by rw [← HV.out])).mono ?_
          rintro _ w2 ⟨rfl, z2⟩
          have z3 := keep_call (w2 := w0) z2 z1
          obtain ⟨a0, a1, a2, a3, a4, a5, a6⟩ := (BF.below z3 h2).cells
          have HZ := Lib.hid (Z.trans (z3.mono (by omega)))
          clear z1 z2 z3
          go_wp2
          go_ret
          exact ⟨rfl, HZ.out⟩
    · have e3 : decide (s = 0) = false := by simpa using e2
      rw [show (true && decide (s = 0) && decide (o = op) && decide (0 ≤ p) && decide (p < 5)) = false by simp [e3]]
      have HE := Lib.hid e1
      have HV := Lib.hid e2
      clear e1 e2 e3 h5
      go_enter Tryz.func107, Tryz.ntmps107
      go_wp2_with fail
      change Calls _ _ _ (bxc w W D J S ⟨o, p, q, v, x, y, s⟩) _
      generalize bxc w W D J S ⟨o, p, q, v, x, y, s⟩ = w0 at BX BF Z hz h1 h2 ⊢
      refine (Tells.of (qthere_any W D J S A n c m _ hn) (v' := .bool true) (by rw [HE.out])).mono ?_
      rintro _ w1 ⟨rfl, z1⟩
      obtain ⟨a0, a1, a2, a3, a4, a5, a6⟩ := (BF.below z1 h2).cells
      go_wp2_with fail
      refine (Tells.of (over_any ⟨o, p, q, v, x, y, s⟩ _) (v' := .bool true) (by rw [← HV.out])).mono ?_
      rintro _ w2 ⟨rfl, z2⟩
      have z3 := keep_call (w2 := w0) z2 z1
      obtain ⟨a0, a1, a2, a3, a4, a5, a6⟩ := (BF.below z3 h2).cells
      have HZ := Lib.hid (Z.trans (z3.mono (by omega)))
      clear z1 z2 z3
      go_wp2
      go_ret
      exact ⟨rfl, HZ.out⟩

section
attribute [local go_sem] run_store_func run_makeFunc
/-- What order hands back: a closure over two variables: the steps, and where the call is. -/
def RetOr (w : World) (g : Nat) (e : Ending) (w' : World) : Prop :=
  ∃ a b : Nat, e = .returned (.func (.func 147) #[] #[.pointer (some ⟨a, 0, none⟩), .pointer (some ⟨b, 0, none⟩)]) ∧ w'.cell? ⟨a, 0, none⟩ = some (.func (.func 142) #[.pointer (some ⟨g, 0, none⟩)] #[]) ∧ w'.cell? ⟨a, 1, none⟩ = some (.func (.func 143) #[.pointer (some ⟨g, 0, none⟩)] #[]) ∧ w'.cell? ⟨a, 2, none⟩ = some (.func (.func 144) #[.pointer (some ⟨g, 0, none⟩)] #[]) ∧ w'.cell? ⟨a, 3, none⟩ = some (.func (.func 145) #[.pointer (some ⟨g, 0, none⟩)] #[]) ∧ w'.cell? ⟨a, 4, none⟩ = some (.func (.func 146) #[.pointer (some ⟨g, 0, none⟩)] #[])
    ∧ w'.cell? ⟨b, 0, none⟩ = some (.pointer (some ⟨g, 0, none⟩)) ∧ Below w.heap.size w w'
theorem order_any (g : Nat) (w : World) : Calls Tryz.prog 108 #[.pointer (some ⟨g, 0, none⟩)] w (RetOr w g) := by
  go_enter Tryz.func108, Tryz.ntmps108
  go_wp2
  go_ret
  exact ⟨w.heap.size + 1, w.heap.size, rfl, by go_simp, by go_simp, by go_simp, by go_simp, by go_simp, by go_simp, (box_below w _).alloc (by simp) _⟩
theorem order1_any (g a b : Nat) (k : Nat) (hk : k < 5) (W D J S : Int) (v : Value) (f : Fr) (V : Value) (w : World) (hB : Bq w g W D J S v f) (hp : f.pc = k) (hV : w.cell? ⟨a, k, none⟩ = some V) (hb : w.cell? ⟨b, 0, none⟩ = some (.pointer (some ⟨g, 0, none⟩))) :
    Gives 147 #[.pointer (some ⟨a, 0, none⟩), .pointer (some ⟨b, 0, none⟩)] w V := by
  have c6 := hB.cells.2.2.2.2.2.2.1
  rw [hp] at c6
  clear hB hp
  go_enter Tryz.func147, Tryz.ntmps147
  go_wp2
  go_ret
  exact ⟨rfl, rfl⟩
end
end Go.Proofs.YtlpkccpijloidaaGreat
namespace Go.Proofs.YtlpkccpijloidaaGreat
set_option linter.unusedSimpArgs false
set_option maxRecDepth 100000
open Go.RowKit Go.Deep
set_option maxHeartbeats 4000000 in
theorem qstep_leave (W D J S : Int) (A : Option Addr) (c : Nat) (l : List Int) (f : Fr) (w : World) (h : Rd w A l) (hs : l.length ≤ 500) (hg : goesE W D J S l f 3 = false) :
    Calls Tryz.prog 92 #[cf W D J S, .slice A l.length c, fv f] w (RetS w l f) := by
  obtain ⟨BX, BF, B0, Z, hz⟩ := boxes3 w W D J S f
  have H := Lib.hid (h.below Z); clear h
  have HS := Lib.hid hs; clear hs
  have HG := Lib.hid hg; clear hg
  obtain ⟨o, p, q, v, x, y, s⟩ := f
  go_enter Tryz.func92, Tryz.ntmps92
  go_upto_region 1 with fail
  change Code.wp _ _ _ _ (bx3 w W D J S ⟨o, p, q, v, x, y, s⟩)
  generalize bx3 w W D J S ⟨o, p, q, v, x, y, s⟩ = w0 at BX BF B0 Z hz H ⊢
  go_cut [8] from 10 to 14 (fun t wr => ∃ (g : Nat) (A' : Option Addr) (c' : Nat), t = .pointer (some ⟨g, 0, none⟩) ∧ Hid (Bq wr g W D J S (.slice A' l.length c') ⟨o, p, q, v, x, y, s⟩) ∧ Hid (Rx w0.heap.size g wr A' l) ∧ Hid (Below w0.heap.size w0 wr) ∧ Hid (w0.heap.size ≤ g))
  case first =>
    have HZ := Lib.hid hz
    clear hz
    have HK := Lib.hid (show ∀ x', Below w0.heap.size w0 x' → (fun w' => w'.cell? ⟨w.heap.size, 0, none⟩ = some (.int .i64 W) ∧ w'.cell? ⟨w.heap.size, 1, none⟩ = some (.int .i64 D) ∧ w'.cell? ⟨w.heap.size, 2, none⟩ = some (.int .i64 J) ∧ w'.cell? ⟨w.heap.size, 3, none⟩ = some (.int .i64 S) ∧ w'.cell? ⟨w.heap.size + 1, 0, none⟩ = some (.int .i64 o) ∧ w'.cell? ⟨w.heap.size + 1, 1, none⟩ = some (.int .i64 p) ∧ w'.cell? ⟨w.heap.size + 1, 2, none⟩ = some (.int .i64 q) ∧ w'.cell? ⟨w.heap.size + 1, 3, none⟩ = some (.int .u64 v) ∧ w'.cell? ⟨w.heap.size + 1, 4, none⟩ = some (.int .u64 x) ∧ w'.cell? ⟨w.heap.size + 1, 5, none⟩ = some (.int .u64 y) ∧ w'.cell? ⟨w.heap.size + 1, 6, none⟩ = some (.int .i64 s) ∧ Below w0.heap.size w0 w') x' from fun x' hx => by
      obtain ⟨_, e0, e1, e2, e3⟩ := BX.below hx
      obtain ⟨f0, f1, f2, f3, f4, f5, f6⟩ := (BF.after hx).cells
      exact ⟨e0, e1, e2, e3, f0, f1, f2, f3, f4, f5, f6, hx⟩)
    have hHeld0 := HK.out _ (Below.refl _ _)
    have hn0 : w0.heap.size ≤ w0.heap.size := Nat.le_refl _
    have zr := (Below.refl w0.heap.size w0).drew
    go_region_held3 (fun w' => w'.cell? ⟨w.heap.size, 0, none⟩ = some (.int .i64 W) ∧ w'.cell? ⟨w.heap.size, 1, none⟩ = some (.int .i64 D) ∧ w'.cell? ⟨w.heap.size, 2, none⟩ = some (.int .i64 J) ∧ w'.cell? ⟨w.heap.size, 3, none⟩ = some (.int .i64 S) ∧ w'.cell? ⟨w.heap.size + 1, 0, none⟩ = some (.int .i64 o) ∧ w'.cell? ⟨w.heap.size + 1, 1, none⟩ = some (.int .i64 p) ∧ w'.cell? ⟨w.heap.size + 1, 2, none⟩ = some (.int .i64 q) ∧ w'.cell? ⟨w.heap.size + 1, 3, none⟩ = some (.int .u64 v) ∧ w'.cell? ⟨w.heap.size + 1, 4, none⟩ = some (.int .u64 x) ∧ w'.cell? ⟨w.heap.size + 1, 5, none⟩ = some (.int .u64 y) ∧ w'.cell? ⟨w.heap.size + 1, 6, none⟩ = some (.int .i64 s) ∧ Below w0.heap.size w0 w')
      (first | with_reducible exact hd_drew HK.out (fun _ h => h.2.2.2.2.2.2.2.2.2.2.2) (by assumption) | with_reducible exact hd_alloc HK.out (fun _ h => h.2.2.2.2.2.2.2.2.2.2.2) hn0 _ (by assumption) | with_reducible exact hd_alloc_drew HK.out (fun _ h => h.2.2.2.2.2.2.2.2.2.2.2) hn0 _ (by assumption) | with_reducible exact hd_call HK.out (fun _ h => h.2.2.2.2.2.2.2.2.2.2.2) (by assumption) (by assumption) hn0 | with_reducible exact HK.out _ (z1.alloc z1.size _) | with_reducible exact hd_set12 HK.out (Nat.le_refl _) _ _ _ _ _ _ _ _ _ _ _ _ z1)
      (first
      | (go_at_call 21; (refine (clone_any A l.length c l w0.drew (H.out.below zr) rfl HS.out).mono ?_); rintro _ w1 ⟨A1, c1, rfl, hr1, hb1⟩; have HR1 := Lib.hid hr1; have z1 : Below w0.heap.size w0 w1 := keep_call hb1 zr; clear hr1)
      | (go_at_call 21; (refine (clone_any A l.length c l _ (H.out.below (zr.alloc (Nat.le_refl _) _)) rfl HS.out).mono ?_); rintro _ w1 ⟨A1, c1, rfl, hr1, hb1⟩; have HR1 := Lib.hid hr1; have z1 : Below w0.heap.size w0 w1 := (zr.alloc (Nat.le_refl _) _).trans (hb1.mono (by simp)); have e1 := (Bq.new w0).drew.after hb1; have E1 := Lib.hid e1; obtain ⟨d0, d1, d2, d3, d4, d5, d6, d7, d8, d9, d10, d11⟩ := e1.cells; have fz := e1.free; clear hr1 e1))
    · go_wp2_with fail
      go_meet
      exact ⟨w1.heap.size, A1, c1, rfl, Lib.hid (heap_alloc_new _ _), Lib.hid ((HR1.out.rx (Nat.le_refl _) (.inr (Nat.le_refl _))).after (bel_alloc w1 _)), Lib.hid (z1.alloc z1.size _), Lib.hid z1.size⟩
    · go_wp2_with fail
      go_meet
      change ∃ (g : Nat) (A' : Option Addr) (c' : Nat), Value.pointer (some ⟨w0.heap.size, 0, none⟩) = .pointer (some ⟨g, 0, none⟩) ∧ Hid (Bq (ppq w1 w0.heap.size W D J S (.slice A1 l.length c1) ⟨o, p, q, v, x, y, s⟩) g W D J S (.slice A' l.length c') ⟨o, p, q, v, x, y, s⟩) ∧ Hid (Rx w0.heap.size g (ppq w1 w0.heap.size W D J S (.slice A1 l.length c1) ⟨o, p, q, v, x, y, s⟩) A' l) ∧ Hid (Below w0.heap.size w0 (ppq w1 w0.heap.size W D J S (.slice A1 l.length c1) ⟨o, p, q, v, x, y, s⟩)) ∧ Hid (w0.heap.size ≤ g)
      exact ⟨w0.heap.size, A1, c1, rfl, Lib.hid (E1.out.ppq _ _ _ _ _ _), Lib.hid ((HR1.out.rx (by simp) (.inl (by simp))).ppq _ _ _ _ _ _), Lib.hid (below_ppq z1 (Nat.le_refl _) _ _ _ _ _ _), Lib.hid (Nat.le_refl _)⟩
  case rest =>
    obtain ⟨g, A', c', rfl, HB, HR, HZ, HL⟩ := hcut
    obtain ⟨_, b0, b1, b2, b3⟩ := BX.below HZ.out
    obtain ⟨a0, a1, a2, a3, a4, a5, a6⟩ := (BF.after HZ.out).cells
    go_wp2_with fail
    refine (Tells.of (qgoes_any W D J S 3 A l.length c l ⟨o, p, q, v, x, y, s⟩ _ rfl) (v' := .bool false) (by rw [HG.out])).mono ?_
    rintro _ w3 ⟨rfl, z3⟩
    have HB3 := Lib.hid (HB.out.after z3)
    have HR3 := Lib.hid (HR.out.after z3)
    have z30 := keep_call z3 HZ.out
    have B03 := B0.after z30
    obtain ⟨b0, b1, b2, b3, b4, b5, b6, b7, b8, b9, b10, b11⟩ := HB3.out.cells
    obtain ⟨d0, d1, d2, d3, d4, d5, d6⟩ := B03.cells
    have fz := B03.free
    go_wp2_with fail
    have HZ3 := Lib.hid (Z.trans (z30.mono (by omega)))
    have hl2 : w.heap.size ≤ w.heap.size + 1 + 1 := by omega
    have hh2 : w.heap.size + 1 + 1 < w0.heap.size := by omega
    have HG2 := Lib.hid (show w.heap.size + 1 + 1 < g from Nat.lt_of_lt_of_le hh2 HL.out)
    have hz2 : w.heap.size ≤ w0.heap.size := by omega
    clear hz z3 z30 HZ HL
    go_region
    all_goals
      go_wp2
      change bodyPost _ _ _ _ _ (pf w3 (w.heap.size + 1 + 1) ⟨o, p, q, v, x, y, s⟩).drew
      refine bodyPost_ret (results_fr Tryz.results92 _ rfl ((B03.pf _).drew)) rfl ?_
      exact ⟨A', c', rfl, ((HR3.out.rn.pf hh2 _).drew).mono hz2, (below_pf HZ3.out hl2 _).drew⟩
set_option maxHeartbeats 4000000 in
theorem qstep_deed (k : Nat) (F : FuncId) (W D J S : Int) (A : Option Addr) (c : Nat) (l l' : List Int) (f f' : Fr) (w : World) (h : Rd w A l) (hs : l.length ≤ 500) (hg : goesE W D J S l f 3 = true) (hk : k < 5) (hp : f.pc = k)
    (hF : k = 0 ∧ F = 142 ∨ k = 1 ∧ F = 143 ∨ k = 2 ∧ F = 144 ∨ k = 3 ∧ F = 145 ∨ k = 4 ∧ F = 146)
    (C : ∀ (lo g : Nat) (A : Option Addr) (c : Nat) (w : World), Bq w g W D J S (.slice A l.length c) f → Rx lo g w A l → lo ≤ w.heap.size → Calls Tryz.prog F #[.pointer (some ⟨g, 0, none⟩)] w (Lq lo w g f' W D J S l')) :
    Calls Tryz.prog 92 #[cf W D J S, .slice A l.length c, fv f] w (RetS w l' f') := by
  obtain ⟨BX, BF, B0, Z, hz⟩ := boxes3 w W D J S f
  have H := Lib.hid (h.below Z); clear h
  have HS := Lib.hid hs; clear hs
  have HG := Lib.hid hg; clear hg
  obtain ⟨o, p, q, v, x, y, s⟩ := f
  have CC := Lib.hid C; clear C
  have HF := Lib.hid hF; clear hF
  have HP := Lib.hid hp; clear hp
  have HKK := Lib.hid hk; clear hk
  go_enter Tryz.func92, Tryz.ntmps92
  go_upto_region 1 with fail
  change Code.wp _ _ _ _ (bx3 w W D J S ⟨o, p, q, v, x, y, s⟩)
  generalize bx3 w W D J S ⟨o, p, q, v, x, y, s⟩ = w0 at BX BF B0 Z hz H ⊢
  go_cut [8] from 10 to 14 (fun t wr => ∃ (g : Nat) (A' : Option Addr) (c' : Nat), t = .pointer (some ⟨g, 0, none⟩) ∧ Hid (Bq wr g W D J S (.slice A' l.length c') ⟨o, p, q, v, x, y, s⟩) ∧ Hid (Rx w0.heap.size g wr A' l) ∧ Hid (Below w0.heap.size w0 wr) ∧ Hid (w0.heap.size ≤ g))
  case first =>
    have HZ := Lib.hid hz
    clear hz
    have HK := Lib.hid (show ∀ x', Below w0.heap.size w0 x' → (fun w' => w'.cell? ⟨w.heap.size, 0, none⟩ = some (.int .i64 W) ∧ w'.cell? ⟨w.heap.size, 1, none⟩ = some (.int .i64 D) ∧ w'.cell? ⟨w.heap.size, 2, none⟩ = some (.int .i64 J) ∧ w'.cell? ⟨w.heap.size, 3, none⟩ = some (.int .i64 S) ∧ w'.cell? ⟨w.heap.size + 1, 0, none⟩ = some (.int .i64 o) ∧ w'.cell? ⟨w.heap.size + 1, 1, none⟩ = some (.int .i64 p) ∧ w'.cell? ⟨w.heap.size + 1, 2, none⟩ = some (.int .i64 q) ∧ w'.cell? ⟨w.heap.size + 1, 3, none⟩ = some (.int .u64 v) ∧ w'.cell? ⟨w.heap.size + 1, 4, none⟩ = some (.int .u64 x) ∧ w'.cell? ⟨w.heap.size + 1, 5, none⟩ = some (.int .u64 y) ∧ w'.cell? ⟨w.heap.size + 1, 6, none⟩ = some (.int .i64 s) ∧ Below w0.heap.size w0 w') x' from fun x' hx => by
      obtain ⟨_, e0, e1, e2, e3⟩ := BX.below hx
      obtain ⟨f0, f1, f2, f3, f4, f5, f6⟩ := (BF.after hx).cells
      exact ⟨e0, e1, e2, e3, f0, f1, f2, f3, f4, f5, f6, hx⟩)
    have hHeld0 := HK.out _ (Below.refl _ _)
    have hn0 : w0.heap.size ≤ w0.heap.size := Nat.le_refl _
    have zr := (Below.refl w0.heap.size w0).drew
    go_region_held3 (fun w' => w'.cell? ⟨w.heap.size, 0, none⟩ = some (.int .i64 W) ∧ w'.cell? ⟨w.heap.size, 1, none⟩ = some (.int .i64 D) ∧ w'.cell? ⟨w.heap.size, 2, none⟩ = some (.int .i64 J) ∧ w'.cell? ⟨w.heap.size, 3, none⟩ = some (.int .i64 S) ∧ w'.cell? ⟨w.heap.size + 1, 0, none⟩ = some (.int .i64 o) ∧ w'.cell? ⟨w.heap.size + 1, 1, none⟩ = some (.int .i64 p) ∧ w'.cell? ⟨w.heap.size + 1, 2, none⟩ = some (.int .i64 q) ∧ w'.cell? ⟨w.heap.size + 1, 3, none⟩ = some (.int .u64 v) ∧ w'.cell? ⟨w.heap.size + 1, 4, none⟩ = some (.int .u64 x) ∧ w'.cell? ⟨w.heap.size + 1, 5, none⟩ = some (.int .u64 y) ∧ w'.cell? ⟨w.heap.size + 1, 6, none⟩ = some (.int .i64 s) ∧ Below w0.heap.size w0 w')
      (first | with_reducible exact hd_drew HK.out (fun _ h => h.2.2.2.2.2.2.2.2.2.2.2) (by assumption) | with_reducible exact hd_alloc HK.out (fun _ h => h.2.2.2.2.2.2.2.2.2.2.2) hn0 _ (by assumption) | with_reducible exact hd_alloc_drew HK.out (fun _ h => h.2.2.2.2.2.2.2.2.2.2.2) hn0 _ (by assumption) | with_reducible exact hd_call HK.out (fun _ h => h.2.2.2.2.2.2.2.2.2.2.2) (by assumption) (by assumption) hn0 | with_reducible exact HK.out _ (z1.alloc z1.size _) | with_reducible exact hd_set12 HK.out (Nat.le_refl _) _ _ _ _ _ _ _ _ _ _ _ _ z1)
      (first
      | (go_at_call 21; (refine (clone_any A l.length c l w0.drew (H.out.below zr) rfl HS.out).mono ?_); rintro _ w1 ⟨A1, c1, rfl, hr1, hb1⟩; have HR1 := Lib.hid hr1; have z1 : Below w0.heap.size w0 w1 := keep_call hb1 zr; clear hr1)
      | (go_at_call 21; (refine (clone_any A l.length c l _ (H.out.below (zr.alloc (Nat.le_refl _) _)) rfl HS.out).mono ?_); rintro _ w1 ⟨A1, c1, rfl, hr1, hb1⟩; have HR1 := Lib.hid hr1; have z1 : Below w0.heap.size w0 w1 := (zr.alloc (Nat.le_refl _) _).trans (hb1.mono (by simp)); have e1 := (Bq.new w0).drew.after hb1; have E1 := Lib.hid e1; obtain ⟨d0, d1, d2, d3, d4, d5, d6, d7, d8, d9, d10, d11⟩ := e1.cells; have fz := e1.free; clear hr1 e1))
    · go_wp2_with fail
      go_meet
      exact ⟨w1.heap.size, A1, c1, rfl, Lib.hid (heap_alloc_new _ _), Lib.hid ((HR1.out.rx (Nat.le_refl _) (.inr (Nat.le_refl _))).after (bel_alloc w1 _)), Lib.hid (z1.alloc z1.size _), Lib.hid z1.size⟩
    · go_wp2_with fail
      go_meet
      change ∃ (g : Nat) (A' : Option Addr) (c' : Nat), Value.pointer (some ⟨w0.heap.size, 0, none⟩) = .pointer (some ⟨g, 0, none⟩) ∧ Hid (Bq (ppq w1 w0.heap.size W D J S (.slice A1 l.length c1) ⟨o, p, q, v, x, y, s⟩) g W D J S (.slice A' l.length c') ⟨o, p, q, v, x, y, s⟩) ∧ Hid (Rx w0.heap.size g (ppq w1 w0.heap.size W D J S (.slice A1 l.length c1) ⟨o, p, q, v, x, y, s⟩) A' l) ∧ Hid (Below w0.heap.size w0 (ppq w1 w0.heap.size W D J S (.slice A1 l.length c1) ⟨o, p, q, v, x, y, s⟩)) ∧ Hid (w0.heap.size ≤ g)
      exact ⟨w0.heap.size, A1, c1, rfl, Lib.hid (E1.out.ppq _ _ _ _ _ _), Lib.hid ((HR1.out.rx (by simp) (.inl (by simp))).ppq _ _ _ _ _ _), Lib.hid (below_ppq z1 (Nat.le_refl _) _ _ _ _ _ _), Lib.hid (Nat.le_refl _)⟩
  case rest =>
    obtain ⟨g, A', c', rfl, HB, HR, HZ, HL⟩ := hcut
    obtain ⟨_, b0, b1, b2, b3⟩ := BX.below HZ.out
    obtain ⟨a0, a1, a2, a3, a4, a5, a6⟩ := (BF.after HZ.out).cells
    go_wp2_with fail
    refine (Tells.of (qgoes_any W D J S 3 A l.length c l ⟨o, p, q, v, x, y, s⟩ _ rfl) (v' := .bool true) (by rw [HG.out])).mono ?_
    rintro _ w3 ⟨rfl, z3⟩
    have HB3 := Lib.hid (HB.out.after z3)
    have HR3 := Lib.hid (HR.out.after z3)
    have z30 := keep_call z3 HZ.out
    have B03 := B0.after z30
    clear a0 a1 a2 a3 a4 a5 a6 b0 b1 b2 b3
    go_wp2_with fail
    refine (order_any g _).mono ?_
    rintro _ w4 ⟨a, b, rfl, k0, k1, k2, k3, k4, kb, z4⟩
    have HB4 := Lib.hid (HB3.out.after z4)
    have HR4 := Lib.hid (HR3.out.after z4)
    have z40 := keep_call z4 z30
    have hV : ∀ j : Nat, j < 5 → ∃ V, w4.cell? ⟨a, j, none⟩ = some V := fun j hj => by
      rcases (show j = 0 ∨ j = 1 ∨ j = 2 ∨ j = 3 ∨ j = 4 by omega) with rfl | rfl | rfl | rfl | rfl
      · exact ⟨_, k0⟩
      · exact ⟨_, k1⟩
      · exact ⟨_, k2⟩
      · exact ⟨_, k3⟩
      · exact ⟨_, k4⟩
    have HV := Lib.hid (show w4.cell? ⟨a, k, none⟩ = some (.func (.func F) #[.pointer (some ⟨g, 0, none⟩)] #[]) by
      rcases HF.out with ⟨rfl, rfl⟩ | ⟨rfl, rfl⟩ | ⟨rfl, rfl⟩ | ⟨rfl, rfl⟩ | ⟨rfl, rfl⟩
      · exact k0
      · exact k1
      · exact k2
      · exact k3
      · exact k4)
    have HKB := Lib.hid kb
    have HL2 := HL.out
    have hl2 : w.heap.size ≤ w.heap.size + 1 + 1 := by omega
    have hh2 : w.heap.size + 1 + 1 < w0.heap.size := by omega
    have hz2 : w.heap.size ≤ w0.heap.size := by omega
    have Z4 := Lib.hid z40
    have HB0 := Lib.hid B0
    clear k0 k1 k2 k3 k4 kb hV z4 z40 hz z3 z30 B03 B0
    go_wp2_with fail
    refine (order1_any g a b k HKK.out W D J S _ _ _ _ HB4.out HP.out HV.out HKB.out).mono ?_
    rintro _ _ ⟨rfl, rfl⟩
    rcases HF.out with ⟨rfl, rfl⟩ | ⟨rfl, rfl⟩ | ⟨rfl, rfl⟩ | ⟨rfl, rfl⟩ | ⟨rfl, rfl⟩
    all_goals
      go_wp2_with fail
      refine (CC.out w0.heap.size g A' c' _ HB4.out HR4.out Z4.out.size).mono ?_
      rintro _ w5 ⟨A5, c5, rfl, hb5, hr5, hz5⟩
      have z5 : Below w0.heap.size w0 w5 := Z4.out.trans (hz5.mono HL2)
      have HB5 := Lib.hid hb5
      have HR5 := Lib.hid hr5
      have B03 := HB0.out.after z5
      have HZ5 := Lib.hid (Z.trans (z5.mono hz2))
      obtain ⟨b0, b1, b2, b3, b4, b5, b6, b7, b8, b9, b10, b11⟩ := HB5.out.cells
      obtain ⟨d0, d1, d2, d3, d4, d5, d6⟩ := B03.cells
      have fz := B03.free
      clear hb5 hr5 hz5 z5
      go_wp2_with fail
      go_region
      all_goals
        go_wp2
        change bodyPost _ _ _ _ _ (pf w5 (w.heap.size + 1 + 1) f').drew
        refine bodyPost_ret (results_fr Tryz.results92 _ rfl ((B03.pf _).drew)) rfl ?_
        exact ⟨A5, c5, rfl, ((HR5.out.rn.pf hh2 _).drew).mono hz2, (below_pf HZ5.out hl2 _).drew⟩
theorem sq_ok {W D J S : Int} (h : may W D J S = true) (x : Int) : sq W D J S x = sqI J x := by unfold sq sqI; rw [h]; rfl
theorem vl_ok {W D J S : Int} (h : may W D J S = true) (x : Int) : vl W D J S x = vlI J x := by unfold vl vlI; rw [h]; rfl
theorem Lq.of {lo : Nat} {w : World} {g : Nat} {f f' : Fr} {W D J S : Int} {l l' : List Int} {P : Program} {F : FuncId} {args : Array Value} (h : Calls P F args w (Lq lo w g f W D J S l)) (e1 : f = f') (e2 : l = l') : Calls P F args w (Lq lo w g f' W D J S l') := by
  rw [← e1, ← e2]; exact h
theorem qstep_any (W D J S : Int) (A : Option Addr) (c : Nat) (l : List Int) (f : Fr) (w : World) (h : Rd w A l) (hs : l.length ≤ 500) (hf : UF f) :
    Calls Tryz.prog 92 #[cf W D J S, .slice A l.length c, fv f] w (RetS w (enqS W D J S l f).1 (enqS W D J S l f).2) := by
  cases hg : goesE W D J S l f 3
  · have e : enqS W D J S l f = (l, f) := by unfold enqS; rw [hg]; rfl
    rw [e]
    exact qstep_leave W D J S A c l f w h hs hg
  · obtain ⟨hk, hr, ho, h0, h4⟩ := goesE_iff.1 hg
    obtain ⟨hm, hlen⟩ := okm_iff.1 hk
    obtain ⟨hW, hD, hJ, hS⟩ := may_lim hm
    have hlong := okm_long hk
    have hp : f.pc = 0 ∨ f.pc = 1 ∨ f.pc = 2 ∨ f.pc = 3 ∨ f.pc = 4 := by omega
    unfold enqS
    rw [if_pos hg]
    rcases hp with hp | hp | hp | hp | hp
    · rw [if_pos hp]
      exact qstep_deed 0 142 W D J S A c l l f _ w h hs hg (by omega) hp (.inl ⟨rfl, rfl⟩) (fun lo g A c w hB hA _ => loadTail_any lo g f W D J S A c l w hB hA hs)
    · rw [if_neg (by omega), if_pos hp]
      refine qstep_deed 1 143 W D J S A c l _ f _ w h hs hg (by omega) hp (.inr (.inl ⟨rfl, rfl⟩)) (fun lo g A c w hB hA _ => Lq.of (loadSeq_any lo g f W D J S _ _ (at0 l (sqI J f.x) == tw J f.x % 18446744073709551616) (decide (far (at0 l (sqI J f.x)) (tw J f.x % 18446744073709551616) < 0)) _ A c l w hB hA hs hJ hf.2.1 (by rw [sq_ok hm]) rfl rfl rfl rfl) ?_ ?_)
      · by_cases e1 : at0 l (sqI J f.x) = tw J f.x % 18446744073709551616
        · rw [if_pos e1, if_pos (by simpa using e1)]
        · rw [if_neg e1, if_neg (by simpa using e1)]
          by_cases e2 : far (at0 l (sqI J f.x)) (tw J f.x % 18446744073709551616) < 0
          · rw [if_pos e2, if_pos (by simpa using e2)]
          · rw [if_neg e2, if_neg (by simpa using e2)]
      · split
        · rfl
        · split <;> rfl
    · rw [if_neg (by omega), if_neg (by omega), if_pos hp]
      have e5 : isAt l 5 f.x = decide (at0 l 5 = f.x) := isAt_at0 (by omega) (by omega)
      refine qstep_deed 2 144 W D J S A c l _ f _ w h hs hg (by omega) hp (.inr (.inr (.inl ⟨rfl, rfl⟩))) (fun lo g A c w hB hA hlo => Lq.of (raiseTail_any lo g f W D J S _ _ _ A c l w hB hA hs hlo rfl rfl rfl) ?_ ?_)
      · rw [e5]
        by_cases e : at0 l 5 = f.x
        · rw [if_pos (by simpa using e), if_pos e]
        · rw [if_neg (by simpa using e), if_neg e]
      · rw [e5]
        by_cases e : at0 l 5 = f.x
        · rw [if_pos (by simpa using e), if_pos e]
        · rw [if_neg (by simpa using e), if_neg e]
    · rw [if_neg (by omega), if_neg (by omega), if_neg (by omega), if_pos hp]
      exact qstep_deed 3 145 W D J S A c l _ f _ w h hs hg (by omega) hp (.inr (.inr (.inr (.inl ⟨rfl, rfl⟩)))) (fun lo g A c w hB hA hlo => Lq.of (qstoreVal_any lo g f W D J S A c l w hB hA hs hlo hf.2.1) rfl (by rw [vl_ok hm]))
    · rw [if_neg (by omega), if_neg (by omega), if_neg (by omega), if_neg (by omega)]
      exact qstep_deed 4 146 W D J S A c l _ f _ w h hs hg (by omega) hp (.inr (.inr (.inr (.inr ⟨rfl, rfl⟩)))) (fun lo g A c w hB hA hlo => Lq.of (storeSeq_any lo g f W D J S _ A c l w hB hA hs hlo hJ hf.2.1 rfl) rfl (by rw [sq_ok hm]))
/-- A step, where the cells are as many as before. -/
theorem enq_n {W D J S : Int} {A : Option Addr} {n c : Nat} {l : List Int} {f : Fr} {w : World} (h : Rd w A l) (hn : l.length = n) (hs : n ≤ 500) (hf : UF f) {l' : List Int} {f' : Fr} (e : enqS W D J S l f = (l', f')) :
    Calls Tryz.prog 92 #[cf W D J S, .slice A n c, fv f] w fun e w' => ∃ A' c', e = .returned (.tuple #[.slice A' n c', fv f']) ∧ Rn w.heap.size w' A' l' ∧ Below w.heap.size w w' := by
  subst hn
  have h2 := qstep_any W D J S A c l f w h hs hf
  have hl := enqS_len W D J S l f
  rw [e] at h2 hl
  refine h2.mono ?_
  rintro _ w' ⟨A', c', rfl, h3, h4⟩
  exact ⟨A', c', by rw [show l'.length = l.length from hl], h3, h4⟩
end Go.Proofs.YtlpkccpijloidaaGreat
