/- Contract of a push's second step. -/
import Derived.Test.YtfeccpfkpbminaaPuB
import Derived.IntWalk
namespace Go.Proofs.Ytfeccpfkpbminaa
open Go.RowKit Go.Deep
set_option maxHeartbeats 2000000 in
theorem loadTop_any (lo g : Nat) (f : Fr) (W D J S Y : Int) (b : Bool) (A : Option Addr) (c : Nat) (l : List Int) (w : World) (hB : Bp w g f W D J S (.slice A l.length c)) (hA : Rx lo g w A l) (hs : l.length ≤ 500)
    (hD : 1 ≤ D ∧ D ≤ 16) (hY : at0 l (ow W D J S f.who 0) = Y) (hb : decide ((f.x - Y) % 18446744073709551616 ≥ D) = b) (F : Fr) (hF : F = if b then ed f 2 f.val else { f with y := Y, pc := 2 }) :
    Calls Try.prog 63 #[.pointer (some ⟨g, 0, none⟩)] w (Lv lo w g F W D J S l) := by
  have HB := Lib.hid hB
  have HA := Lib.hid hA
  have HS := Lib.hid hs
  clear hB hA hs
  obtain ⟨o, p, q, v, x, y, s⟩ := f
  simp only at hY hb
  have HY := Lib.hid hY
  have e := HB.out
  obtain ⟨a0, a1, a2, a3, a4, a5, a6, a7, a8, a9, a10, a11⟩ := e.cells
  have fz := e.free
  have hg := e.lt
  have zr := Below.refl w.heap.size w
  have HK := Lib.hid (show ∀ x', Kx g 5 w x' → (fun w' => w'.cell? ⟨g, 2, none⟩ = some (.int .i64 q) ∧ w'.cell? ⟨g, 7, none⟩ = some (.int .i64 W) ∧ w'.cell? ⟨g, 8, none⟩ = some (.int .i64 D) ∧ w'.cell? ⟨g, 9, none⟩ = some (.int .i64 J) ∧ w'.cell? ⟨g, 10, none⟩ = some (.int .i64 S) ∧ w'.cell? ⟨g, 11, none⟩ = some (.slice A l.length c) ∧ Kx g 5 w w') x' from fun x' hx =>
    ⟨(hx.cells 2 (by decide)).trans a2, (hx.cells 7 (by decide)).trans a7, (hx.cells 8 (by decide)).trans a8, (hx.cells 9 (by decide)).trans a9, (hx.cells 10 (by decide)).trans a10, (hx.cells 11 (by decide)).trans a11, hx⟩)
  have hHeld0 := HK.out _ (Kx.refl g 5 w)
  have hT : IntKind.u64.wrap (x - Y) = (x - Y) % 18446744073709551616 := IntKind.wrap_u64 _
  have HD1 := Lib.hid hD
  have HBB := Lib.hid hb
  have HF := Lib.hid hF
  clear e hY hb hD hF
  generalize (x - Y) % 18446744073709551616 = T at hT HBB
  go_enter Try.func63, Try.ntmps63
  go_wp2_with fail
  go_region_held3 (fun w' => w'.cell? ⟨g, 2, none⟩ = some (.int .i64 q) ∧ w'.cell? ⟨g, 7, none⟩ = some (.int .i64 W) ∧ w'.cell? ⟨g, 8, none⟩ = some (.int .i64 D) ∧ w'.cell? ⟨g, 9, none⟩ = some (.int .i64 J) ∧ w'.cell? ⟨g, 10, none⟩ = some (.int .i64 S) ∧ w'.cell? ⟨g, 11, none⟩ = some (.slice A l.length c) ∧ Kx g 5 w w')
    (first | with_reducible exact kx_drew HK.out (fun _ h => h.2.2.2.2.2.2) (by assumption) | with_reducible exact kx_call HK.out (fun _ h => h.2.2.2.2.2.2) hg (by assumption) (by assumption) | with_reducible exact kx_set HK.out (fun _ h => h.2.2.2.2.2.2) _ (by assumption))
    (first
    | (go_at_call 20; (refine (top_any W D J S q _).mono ?_); rintro _ w1 ⟨rfl, hb⟩; have z1 := keep_call (w2 := w) hb zr.drew; have Z1 := Lib.hid z1; have e := HB.out.after z1; obtain ⟨b0, b1, b2, b3, b4, b5, b6, b7, b8, b9, b10, b11⟩ := e.cells; have fz := e.free; clear e)
    | (go_at_call 36; (refine (ret_of (load_any A l.length c l _ _ (HA.out.after Z1.out).rd rfl HS.out) (v' := .int .u64 Y) (by rw [HY.out])).mono ?_); rintro _ w2 ⟨rfl, hb2⟩; have z2 := keep_call (w2 := w) hb2 Z1.out; have Z2 := Lib.hid z2; have e := HB.out.after z2; obtain ⟨b0, b1, b2, b3, b4, b5, b6, b7, b8, b9, b10, b11⟩ := e.cells; have fz := e.free; clear e))
  all_goals
    go_wp2_with fail
    have e : Bp ((w2.setCell ⟨g, 5, none⟩ (.int .u64 Y)).setCell ⟨g, 1, none⟩ (.int .i64 2)) g ⟨o, 2, q, v, x, Y, s⟩ W D J S (.slice A l.length c) := ((HB.out.after Z2.out).setY _).setPc _
    have eA : Rx lo g ((w2.setCell ⟨g, 5, none⟩ (.int .u64 Y)).setCell ⟨g, 1, none⟩ (.int .i64 2)) A l := ((HA.out.after Z2.out).set rfl _).set rfl _
    have eb : Below g w ((w2.setCell ⟨g, 5, none⟩ (.int .u64 Y)).setCell ⟨g, 1, none⟩ (.int .i64 2)) := ((Z2.out.mono (Nat.le_of_lt hg)).setCell (Nat.le_refl _) _).setCell (Nat.le_refl _) _
    generalize (w2.setCell ⟨g, 5, none⟩ (.int .u64 Y)).setCell ⟨g, 1, none⟩ (.int .i64 2) = w4 at e eA eb ⊢
    clear Z2 Z1 HK HB HA HS HY
    obtain ⟨c0, c1, c2, c3, c4, c5, c6, c7, c8, c9, c10, c11⟩ := e.cells
    have E := Lib.hid e
    have EA := Lib.hid eA
    have EB := Lib.hid eb
    have hT2 := hT
    have hDw : IntKind.u64.wrap D = D := by have := HD1.out; rw [IntKind.wrap_u64]; omega
    have hge : decide (T ≥ D) = b := HBB.out
    clear e eA eb
    cases b
    · obtain rfl : F = ⟨o, 2, q, v, x, Y, s⟩ := HF.out
      go_quiet (fail)
      go_wp2
      refine bodyPost_ret (by simp [results, Try.results63, go_sem]; try rfl) rfl ?_
      exact ⟨A, c, rfl, E.out.after (below_drewN _ _), EA.out.after (below_drewN _ _), EB.out.trans ((below_drewN _ _).mono (Nat.le_of_lt E.out.lt))⟩
    · obtain rfl : F = ed ⟨o, 2, q, v, x, Y, s⟩ 2 v := HF.out
      go_quiet (fail)
      go_wp2_with fail
      refine (pend_any lo g ⟨o, 2, q, v, x, Y, s⟩ W D J S 2 A c l _ (E.out.after (below_drewN _ _)) (EA.out.after (below_drewN _ _))).mono ?_
      rintro _ w5 ⟨A', c', rfl, hb, ha, hbe⟩
      go_wp2
      refine bodyPost_ret (by simp [results, Try.results63, go_sem]; try rfl) rfl ?_
      exact ⟨A', c', rfl, hb, ha, (EB.out.trans ((below_drewN _ _).mono (Nat.le_of_lt E.out.lt))).trans hbe⟩
end Go.Proofs.Ytfeccpfkpbminaa
