/- Contracts of the steps of a push. -/
import Derived.Test.YtfeccpfkpbminaaPuA
namespace Go.Proofs.Ytfeccpfkpbminaa
open Go.RowKit Go.Deep
set_option maxHeartbeats 2000000 in
theorem pend_any (lo g : Nat) (f : Fr) (W D J S r : Int) (A : Option Addr) (c : Nat) (l : List Int) (w : World) (hB : Bp w g f W D J S (.slice A l.length c)) (hA : Rx lo g w A l) :
    Calls Try.prog 72 #[.pointer (some ⟨g, 0, none⟩), .int .i64 r] w (Lv lo w g (ed f r f.val) W D J S l) := by
  have HB := Lib.hid hB
  have HA := Lib.hid hA
  clear hB hA
  obtain ⟨o, p, q, v, x, y, s⟩ := f
  have e := HB.out
  obtain ⟨a0, a1, a2, a3, a4, a5, a6, a7, a8, a9, a10, a11⟩ := e.cells
  have fz := e.free
  have hg := e.lt
  clear e
  go_enter Try.func72, Try.ntmps72
  go_region_with (go_at_call 50; (refine (end_any ⟨o, p, q, v, x, y, s⟩ _ _ _).mono ?_); rintro _ w2 ⟨rfl, hb⟩; have Hb := Lib.hid hb; have e := HB.out.drew.after hb; obtain ⟨a0, a1, a2, a3, a4, a5, a6, a7, a8, a9, a10, a11⟩ := e.cells; have fz := e.free; clear hb e)
  all_goals
    change bodyPost _ _ _ _ _ (pf w2 g (ed ⟨o, p, q, v, x, y, s⟩ r v))
    refine bodyPost_ret (by simp [results, Try.results72, go_sem]; try rfl) rfl ?_
    exact ⟨A, c, rfl, (HB.out.drew.after Hb.out).pf _, (HA.out.drew.after Hb.out).pf _, below_pf ((Below.refl g w).drew.trans (Hb.out.mono (Nat.le_of_lt hg))) (Nat.le_refl _) _⟩
set_option maxHeartbeats 2000000 in
theorem loadBottom_any (lo g : Nat) (f : Fr) (W D J S : Int) (A : Option Addr) (c : Nat) (l : List Int) (w : World) (hB : Bp w g f W D J S (.slice A l.length c)) (hA : Rx lo g w A l) (hs : l.length ≤ 500) :
    Calls Try.prog 62 #[.pointer (some ⟨g, 0, none⟩)] w (Lv lo w g { f with x := at0 l (ow W D J S f.who 1), pc := 1 } W D J S l) := by
  have HB := Lib.hid hB
  have HA := Lib.hid hA
  have HS := Lib.hid hs
  clear hB hA hs
  obtain ⟨o, p, q, v, x, y, s⟩ := f
  have e := HB.out
  obtain ⟨a0, a1, a2, a3, a4, a5, a6, a7, a8, a9, a10, a11⟩ := e.cells
  have fz := e.free
  have hg := e.lt
  have zr := Below.refl w.heap.size w
  have HK := Lib.hid (show ∀ x', Kx g 4 w x' → (fun w' => w'.cell? ⟨g, 2, none⟩ = some (.int .i64 q) ∧ w'.cell? ⟨g, 7, none⟩ = some (.int .i64 W) ∧ w'.cell? ⟨g, 8, none⟩ = some (.int .i64 D) ∧ w'.cell? ⟨g, 9, none⟩ = some (.int .i64 J) ∧ w'.cell? ⟨g, 10, none⟩ = some (.int .i64 S) ∧ w'.cell? ⟨g, 11, none⟩ = some (.slice A l.length c) ∧ Kx g 4 w w') x' from fun x' hx =>
    ⟨(hx.cells 2 (by decide)).trans a2, (hx.cells 7 (by decide)).trans a7, (hx.cells 8 (by decide)).trans a8, (hx.cells 9 (by decide)).trans a9, (hx.cells 10 (by decide)).trans a10, (hx.cells 11 (by decide)).trans a11, hx⟩)
  have hHeld0 := HK.out _ (Kx.refl g 4 w)
  clear e
  go_enter Try.func62, Try.ntmps62
  go_wp2_with fail
  go_region_held3 (fun w' => w'.cell? ⟨g, 2, none⟩ = some (.int .i64 q) ∧ w'.cell? ⟨g, 7, none⟩ = some (.int .i64 W) ∧ w'.cell? ⟨g, 8, none⟩ = some (.int .i64 D) ∧ w'.cell? ⟨g, 9, none⟩ = some (.int .i64 J) ∧ w'.cell? ⟨g, 10, none⟩ = some (.int .i64 S) ∧ w'.cell? ⟨g, 11, none⟩ = some (.slice A l.length c) ∧ Kx g 4 w w')
    (first | with_reducible exact kx_drew HK.out (fun _ h => h.2.2.2.2.2.2) (by assumption) | with_reducible exact kx_call HK.out (fun _ h => h.2.2.2.2.2.2) hg (by assumption) (by assumption) | with_reducible exact kx_set HK.out (fun _ h => h.2.2.2.2.2.2) _ (by assumption))
    (first
    | (go_at_call 19; (refine (bottom_any W D J S q _).mono ?_); rintro _ w1 ⟨rfl, hb⟩; have z1 := keep_call (w2 := w) hb zr.drew; have Z1 := Lib.hid z1; have e := HB.out.after z1; obtain ⟨b0, b1, b2, b3, b4, b5, b6, b7, b8, b9, b10, b11⟩ := e.cells; have fz := e.free; clear e)
    | (go_at_call 36; (refine (load_any A l.length c l _ _ (HA.out.after Z1.out).rd rfl HS.out).mono ?_); rintro _ w2 ⟨rfl, hb2⟩; have z2 := keep_call (w2 := w) hb2 Z1.out; have Z2 := Lib.hid z2; have e := HB.out.after z2; obtain ⟨b0, b1, b2, b3, b4, b5, b6, b7, b8, b9, b10, b11⟩ := e.cells; have fz := e.free; clear e))
  all_goals
    go_wp2
    refine bodyPost_ret (by simp [results, Try.results62, go_sem]; try rfl) rfl ?_
    exact ⟨A, c, rfl, ((HB.out.after Z2.out).setX _).setPc _, ((HA.out.after Z2.out).set rfl _).set rfl _, ((Z2.out.mono (Nat.le_of_lt hg)).setCell (Nat.le_refl _) _).setCell (Nat.le_refl _) _⟩
end Go.Proofs.Ytfeccpfkpbminaa
