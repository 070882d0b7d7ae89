/- The walk of DrawTells. -/
import Derived.Test.YtnabomdadhgeeaaFitsW
namespace Go.Proofs.Ytnabomdadhgeeaa
open Go.RowKit Go.Deep
/-- A call that yields a value and only draws. -/
abbrev Quiets (f : FuncId) (args : Array Value) (w : World) (v : Value) : Prop := Calls Try.prog f args w fun e w' => e = .returned v ∧ ∃ q, w' = w.drewN q
theorem Gives.quiets {f : FuncId} {args : Array Value} {w : World} {v : Value} (h : Gives f args w v) : Quiets f args w v := h.mono fun _ _ ⟨e, ew⟩ => ⟨e, 0, ew⟩
theorem rnd_len (w s d : Int) : (rnd w s d).length ≤ 1000 := by
  unfold rnd
  split
  · rename_i h
    have := mt_iff.1 h
    rw [rndN_len]
    omega
  · simp
theorem dec_len' (b : List Int) : (dec b).length = b.length / 3 := by unfold dec; rw [decN_len]
theorem tells_a (A L : Option Addr) (la ca ll cl : Nat) (k q d nw ns f : Int) (w : World) (h : 200 < (la : Int)) : Tells 3 #[.slice A la ca, .agg #[.int .i64 k, .int .i64 q, .int .u64 d], .slice L ll cl, .int .i64 nw, .int .i64 ns, .int .i64 f] w (.bool true) := by
  have d0 : decide (200 < (la : Int)) = true := decide_eq_true h
  have Z := Lib.hid ((Below.refl w.heap.size w).alloc (Nat.le_refl _) (.cells #[.int .i64 k, .int .i64 q, .int .u64 d] 25))
  go_enter Try.func3, Try.ntmps3
  go_wp2_with fail
  refine (awake_any _).mono ?_
  rintro _ w1 ⟨rfl, z1⟩
  replace Z := Lib.hid (Z.out.trans (z1.mono Z.out.size))
  clear z1
  go_wp2
  go_ret
  exact ⟨rfl, Z.out⟩
theorem tells_b (A L : Option Addr) (la ca ll cl : Nat) (k q d nw ns f : Int) (w : World) (h0 : ¬ 200 < (la : Int)) (h : 60 < (ll : Int)) : Tells 3 #[.slice A la ca, .agg #[.int .i64 k, .int .i64 q, .int .u64 d], .slice L ll cl, .int .i64 nw, .int .i64 ns, .int .i64 f] w (.bool true) := by
  have d0 : decide (200 < (la : Int)) = false := decide_eq_false h0
  have d1 : decide (60 < (ll : Int)) = true := decide_eq_true h
  have Z := Lib.hid ((Below.refl w.heap.size w).alloc (Nat.le_refl _) (.cells #[.int .i64 k, .int .i64 q, .int .u64 d] 25))
  go_enter Try.func3, Try.ntmps3
  go_wp2_with fail
  refine (awake_any _).mono ?_
  rintro _ w1 ⟨rfl, z1⟩
  replace Z := Lib.hid (Z.out.trans (z1.mono Z.out.size))
  clear z1
  go_wp2
  go_ret
  exact ⟨rfl, Z.out⟩
set_option maxRecDepth 100000 in
set_option maxHeartbeats 4000000 in
theorem tells_main (A L : Option Addr) (la ca ll cl : Nat) (b : List Int) (l : List Pk) (k q d nw ns f : Int) (w : World) (ha : CameY w A la ca b) (hl : CameP w L ll cl l) (h1 : la ≤ 200) (h2 : ll ≤ 60) (hq : I q) (hd : U d) (hn : I nw) (hf : I f) (h6 : nw ≤ 64) : Tells 3 #[.slice A la ca, .agg #[.int .i64 k, .int .i64 q, .int .u64 d], .slice L ll cl, .int .i64 nw, .int .i64 ns, .int .i64 f] w (.bool true) := by
  obtain ⟨ea, hca, hcam, ya, sa⟩ := ha
  obtain ⟨el, hcl, hclm, pl, _⟩ := hl
  have EA := Lib.hid ea
  have EL := Lib.hid el
  have YA := Lib.hid ya
  have PL := Lib.hid pl
  have SA := Lib.hid sa
  have HCA := Lib.hid hcam
  have HCL := Lib.hid hclm
  have N1 := Lib.hid (show (dec b).length ≤ 1000 by rw [dec_len', ea]; omega)
  have IQ := Lib.hid hq
  have UD := Lib.hid hd
  have IN := Lib.hid hn
  have IF := Lib.hid hf
  have d0 : decide (200 < (la : Int)) = false := decide_eq_false (by omega)
  have d1 : decide (60 < (ll : Int)) = false := decide_eq_false (by omega)
  have d2 : decide (64 < nw) = false := decide_eq_false (by omega)
  clear ea el ya pl sa hcam hclm hq hd hn hf
  have BX := Lib.hid (Bx.new w (k, q, d))
  have Z := Lib.hid ((Below.refl w.heap.size w).alloc (Nat.le_refl _) (.cells #[.int .i64 k, .int .i64 q, .int .u64 d] 25))
  go_enter Try.func3, Try.ntmps3
  go_wp2_with fail
  refine (awake_any _).mono ?_
  rintro _ w1 ⟨rfl, z1⟩
  replace Z := Lib.hid (Z.out.trans (z1.mono Z.out.size))
  replace BX := Lib.hid (BX.out.below z1)
  clear z1
  go_wp2_with fail
  have C := dec_any A ca w.heap.size b w1 (YA.out.below Z.out) Z.out.size (by rw [EA.out]; omega) (by rw [EA.out]; exact hca) HCA.out SA.out
  rw [EA.out] at C
  refine C.mono ?_
  rintro _ w2 ⟨X, c2, rfl, ox, z2⟩
  replace Z := Lib.hid (Z.out.trans (z2.mono Z.out.size))
  replace BX := Lib.hid (BX.out.below z2)
  have OX := Lib.hid ox
  clear C ox z2
  go_wp2_with fail
  have C := rdec_any A ca w.heap.size b w2 (YA.out.below Z.out) Z.out.size (by rw [EA.out]; omega) SA.out
  rw [EA.out] at C
  refine C.mono ?_
  rintro _ w3 ⟨Y, c3, rfl, oy, z3⟩
  replace Z := Lib.hid (Z.out.trans (z3.mono Z.out.size))
  replace BX := Lib.hid (BX.out.below z3)
  have PX := Lib.hid ((OX.out.below z3).pr)
  have PY := Lib.hid oy.pr
  clear C oy z3 OX
  go_wp2_with fail
  refine (Tells.of (picks_any X Y c2 c3 w3.heap.size (dec b) (dec b) w3 PX.out PY.out N1.out) (v' := .bool true) (by rw [decide_eq_true rfl])).mono ?_
  rintro _ w4 ⟨rfl, z4⟩
  replace Z := Lib.hid (Z.out.trans (z4.mono Z.out.size))
  have bx := BX.out.below z4
  obtain ⟨-, -, k2, -⟩ := bx.cells
  dsimp only at k2
  have b4 : Hid (Bx w4.drew w.heap.size (k, q, d)) := Lib.hid bx
  have Z4 := Lib.hid Z.out
  clear z4 PX PY Z BX bx
  go_wp2_with fail
  go_region_with (first
    | (go_at_call 14; (with_reducible refine (round_any _ _ _ _).mono ?_); rintro _ wa ⟨X1, cx, rfl, oa, za⟩; have ba : Hid (Bx wa w.heap.size (k, q, d)) := (by first | exact Lib.hid (bb.out.below za) | exact Lib.hid (b4.out.below za)); obtain ⟨-, -, ka, -⟩ := ba.out.cells; dsimp only at ka; have OA := Lib.hid oa; have ZA := Lib.hid za; clear oa za)
    | (go_at_call 15; (with_reducible refine (rround_any _ _ _ _).mono ?_); rintro _ wb ⟨Y1, cy, rfl, ob, zb⟩; have bb : Hid (Bx wb w.heap.size (k, q, d)) := (by first | exact Lib.hid (ba.out.below zb) | exact Lib.hid (b4.out.below zb)); obtain ⟨-, -, kb, -⟩ := bb.out.cells; dsimp only at kb; have OB := Lib.hid ob; have ZB := Lib.hid zb; clear ob zb)
    | (go_at_call 11; first
        | (refine (Tells.of (picks_any X1 Y1 cx cy wb.heap.size (rnd nw ns d) (rnd nw ns d) wb (OA.out.below ZB.out).pr OB.out.pr (rnd_len _ _ _)) (v' := .bool true) (by rw [decide_eq_true rfl])).mono ?_; rintro _ w5 ⟨rfl, z5⟩; have Z := Lib.hid (Z4.out.trans ((((Below.refl w4.heap.size w4).drew.trans ZA.out).trans (ZB.out.mono (show w4.heap.size ≤ wa.heap.size from ZA.out.size))).trans (z5.mono (Nat.le_trans (show w4.heap.size ≤ wa.heap.size from ZA.out.size) ZB.out.size)) |>.mono Z4.out.size)); have BX := Lib.hid (bb.out.below z5); clear z5)
        | (refine (Tells.of (picks_any X1 Y1 cx cy wa.heap.size (rnd nw ns d) (rnd nw ns d) wa OA.out.pr (OB.out.below ZA.out).pr (rnd_len _ _ _)) (v' := .bool true) (by rw [decide_eq_true rfl])).mono ?_; rintro _ w5 ⟨rfl, z5⟩; have Z := Lib.hid (Z4.out.trans ((((Below.refl w4.heap.size w4).drew.trans ZB.out).trans (ZA.out.mono (show w4.heap.size ≤ wb.heap.size from ZB.out.size))).trans (z5.mono (Nat.le_trans (show w4.heap.size ≤ wb.heap.size from ZB.out.size) ZA.out.size)) |>.mono Z4.out.size)); have BX := Lib.hid (ba.out.below z5); clear z5)))
  all_goals
    clear OA OB ZA ZB ka kb ba bb k2 Z4 b4
    obtain ⟨k0, k1, k2, -⟩ := BX.out.cells
    dsimp only at k0 k1 k2
    go_wp2_with fail
    refine (rfits_any (k, q, d) nw ns w5).mono ?_
    rintro _ w6 ⟨rfl, z6⟩
    replace Z := Lib.hid (Z.out.trans (z6.mono Z.out.size))
    replace BX := Lib.hid (BX.out.below z6)
    clear z6 k0 k1 k2
    go_wp2_with fail
    have C := rfair_any L cl w.heap.size l nw ns f w6 (PL.out.below Z.out) (by rw [EL.out]; omega) (by rw [EL.out]; exact hcl) HCL.out IF.out
    rw [EL.out] at C
    refine C.mono ?_
    rintro _ w7 ⟨rfl, z7⟩
    replace Z := Lib.hid (Z.out.trans (z7.mono Z.out.size))
    replace BX := Lib.hid (BX.out.below z7)
    clear z7 C
    obtain ⟨k0, k1, k2, -⟩ := BX.out.cells
    dsimp only at k0 k1 k2
    go_wp2_with fail
    have C1 := Lib.hid (fun x : Nat => (vic_any d q nw (w7.drewN x) UD.out IQ.out IN.out).quiets)
    have C2 := Lib.hid (fun x : Nat => (rvic_any d q nw (w7.drewN x) UD.out IQ.out IN.out h6).quiets)
    generalize vic d q nw = v at C1 C2
    have vv : (v == v) = true := by simp
    go_quiet (first | (go_at_call 18; exact Calls.quiet_of (C1.out _)) | (go_at_call 19; exact Calls.quiet_of (C2.out _)))
    go_wp2_with fail
    refine (fits_any (k, q, d) nw ns _).mono ?_
    rintro _ w8 ⟨rfl, z8⟩
    replace Z := Lib.hid ((Z.out.trans (show Below w.heap.size w7 (w7.drewN nq) from ⟨rfl, rfl, rfl, Nat.le_refl _, fun _ _ => rfl⟩)).trans (z8.mono (show w.heap.size ≤ w7.heap.size from Z.out.size)))
    clear z8
    go_wp2_with fail
    have C := fair_any L cl w.heap.size l nw ns f w8 (PL.out.below Z.out) Z.out.size (by rw [EL.out]; omega) IF.out
    rw [EL.out] at C
    refine C.mono ?_
    rintro _ w9 ⟨rfl, z9⟩
    replace Z := Lib.hid (Z.out.trans (z9.mono Z.out.size))
    clear z9 C
    go_wp2
    go_ret
    exact ⟨rfl, Z.out⟩
set_option maxRecDepth 100000 in
set_option maxHeartbeats 4000000 in
theorem tells_big (A L : Option Addr) (la ca ll cl : Nat) (b : List Int) (l : List Pk) (k q d nw ns f : Int) (w : World) (ha : CameY w A la ca b) (hl : CameP w L ll cl l) (h1 : la ≤ 200) (h2 : ll ≤ 60) (hq : I q) (hd : U d) (hn : I nw) (hf : I f) (h6 : 64 < nw) : Tells 3 #[.slice A la ca, .agg #[.int .i64 k, .int .i64 q, .int .u64 d], .slice L ll cl, .int .i64 nw, .int .i64 ns, .int .i64 f] w (.bool true) := by
  obtain ⟨ea, hca, hcam, ya, sa⟩ := ha
  obtain ⟨el, hcl, hclm, pl, _⟩ := hl
  have EA := Lib.hid ea
  have EL := Lib.hid el
  have YA := Lib.hid ya
  have PL := Lib.hid pl
  have SA := Lib.hid sa
  have HCA := Lib.hid hcam
  have HCL := Lib.hid hclm
  have N1 := Lib.hid (show (dec b).length ≤ 1000 by rw [dec_len', ea]; omega)
  have IQ := Lib.hid hq
  have UD := Lib.hid hd
  have IN := Lib.hid hn
  have IF := Lib.hid hf
  have d0 : decide (200 < (la : Int)) = false := decide_eq_false (by omega)
  have d1 : decide (60 < (ll : Int)) = false := decide_eq_false (by omega)
  have d2 : decide (64 < nw) = true := decide_eq_true h6
  clear ea el ya pl sa hcam hclm hq hd hn hf
  have BX := Lib.hid (Bx.new w (k, q, d))
  have Z := Lib.hid ((Below.refl w.heap.size w).alloc (Nat.le_refl _) (.cells #[.int .i64 k, .int .i64 q, .int .u64 d] 25))
  go_enter Try.func3, Try.ntmps3
  go_wp2_with fail
  refine (awake_any _).mono ?_
  rintro _ w1 ⟨rfl, z1⟩
  replace Z := Lib.hid (Z.out.trans (z1.mono Z.out.size))
  replace BX := Lib.hid (BX.out.below z1)
  clear z1
  go_wp2_with fail
  have C := dec_any A ca w.heap.size b w1 (YA.out.below Z.out) Z.out.size (by rw [EA.out]; omega) (by rw [EA.out]; exact hca) HCA.out SA.out
  rw [EA.out] at C
  refine C.mono ?_
  rintro _ w2 ⟨X, c2, rfl, ox, z2⟩
  replace Z := Lib.hid (Z.out.trans (z2.mono Z.out.size))
  replace BX := Lib.hid (BX.out.below z2)
  have OX := Lib.hid ox
  clear C ox z2
  go_wp2_with fail
  have C := rdec_any A ca w.heap.size b w2 (YA.out.below Z.out) Z.out.size (by rw [EA.out]; omega) SA.out
  rw [EA.out] at C
  refine C.mono ?_
  rintro _ w3 ⟨Y, c3, rfl, oy, z3⟩
  replace Z := Lib.hid (Z.out.trans (z3.mono Z.out.size))
  replace BX := Lib.hid (BX.out.below z3)
  have PX := Lib.hid ((OX.out.below z3).pr)
  have PY := Lib.hid oy.pr
  clear C oy z3 OX
  go_wp2_with fail
  refine (Tells.of (picks_any X Y c2 c3 w3.heap.size (dec b) (dec b) w3 PX.out PY.out N1.out) (v' := .bool true) (by rw [decide_eq_true rfl])).mono ?_
  rintro _ w4 ⟨rfl, z4⟩
  replace Z := Lib.hid (Z.out.trans (z4.mono Z.out.size))
  have bx := BX.out.below z4
  obtain ⟨-, -, k2, -⟩ := bx.cells
  dsimp only at k2
  have b4 : Hid (Bx w4.drew w.heap.size (k, q, d)) := Lib.hid bx
  have Z4 := Lib.hid Z.out
  clear z4 PX PY Z BX bx
  go_wp2_with fail
  go_region_with (first
    | (go_at_call 14; (with_reducible refine (round_any _ _ _ _).mono ?_); rintro _ wa ⟨X1, cx, rfl, oa, za⟩; have ba : Hid (Bx wa w.heap.size (k, q, d)) := (by first | exact Lib.hid (bb.out.below za) | exact Lib.hid (b4.out.below za)); obtain ⟨-, -, ka, -⟩ := ba.out.cells; dsimp only at ka; have OA := Lib.hid oa; have ZA := Lib.hid za; clear oa za)
    | (go_at_call 15; (with_reducible refine (rround_any _ _ _ _).mono ?_); rintro _ wb ⟨Y1, cy, rfl, ob, zb⟩; have bb : Hid (Bx wb w.heap.size (k, q, d)) := (by first | exact Lib.hid (ba.out.below zb) | exact Lib.hid (b4.out.below zb)); obtain ⟨-, -, kb, -⟩ := bb.out.cells; dsimp only at kb; have OB := Lib.hid ob; have ZB := Lib.hid zb; clear ob zb)
    | (go_at_call 11; first
        | (refine (Tells.of (picks_any X1 Y1 cx cy wb.heap.size (rnd nw ns d) (rnd nw ns d) wb (OA.out.below ZB.out).pr OB.out.pr (rnd_len _ _ _)) (v' := .bool true) (by rw [decide_eq_true rfl])).mono ?_; rintro _ w5 ⟨rfl, z5⟩; have Z := Lib.hid (Z4.out.trans ((((Below.refl w4.heap.size w4).drew.trans ZA.out).trans (ZB.out.mono (show w4.heap.size ≤ wa.heap.size from ZA.out.size))).trans (z5.mono (Nat.le_trans (show w4.heap.size ≤ wa.heap.size from ZA.out.size) ZB.out.size)) |>.mono Z4.out.size)); have BX := Lib.hid (bb.out.below z5); clear z5)
        | (refine (Tells.of (picks_any X1 Y1 cx cy wa.heap.size (rnd nw ns d) (rnd nw ns d) wa OA.out.pr (OB.out.below ZA.out).pr (rnd_len _ _ _)) (v' := .bool true) (by rw [decide_eq_true rfl])).mono ?_; rintro _ w5 ⟨rfl, z5⟩; have Z := Lib.hid (Z4.out.trans ((((Below.refl w4.heap.size w4).drew.trans ZB.out).trans (ZA.out.mono (show w4.heap.size ≤ wb.heap.size from ZB.out.size))).trans (z5.mono (Nat.le_trans (show w4.heap.size ≤ wb.heap.size from ZB.out.size) ZA.out.size)) |>.mono Z4.out.size)); have BX := Lib.hid (ba.out.below z5); clear z5)))
  all_goals
    clear OA OB ZA ZB ka kb ba bb k2 Z4 b4
    obtain ⟨k0, k1, k2, -⟩ := BX.out.cells
    dsimp only at k0 k1 k2
    go_wp2_with fail
    refine (rfits_any (k, q, d) nw ns w5).mono ?_
    rintro _ w6 ⟨rfl, z6⟩
    replace Z := Lib.hid (Z.out.trans (z6.mono Z.out.size))
    replace BX := Lib.hid (BX.out.below z6)
    clear z6 k0 k1 k2
    go_wp2_with fail
    have C := rfair_any L cl w.heap.size l nw ns f w6 (PL.out.below Z.out) (by rw [EL.out]; omega) (by rw [EL.out]; exact hcl) HCL.out IF.out
    rw [EL.out] at C
    refine C.mono ?_
    rintro _ w7 ⟨rfl, z7⟩
    replace Z := Lib.hid (Z.out.trans (z7.mono Z.out.size))
    replace BX := Lib.hid (BX.out.below z7)
    clear z7 C
    obtain ⟨k0, k1, k2, -⟩ := BX.out.cells
    dsimp only at k0 k1 k2
    go_wp2_with fail
    go_quiet (fail)
    go_wp2_with fail
    refine (fits_any (k, q, d) nw ns _).mono ?_
    rintro _ w8 ⟨rfl, z8⟩
    replace Z := Lib.hid ((Z.out.trans (show Below w.heap.size w7 (w7.drewN nq) from ⟨rfl, rfl, rfl, Nat.le_refl _, fun _ _ => rfl⟩)).trans (z8.mono (show w.heap.size ≤ w7.heap.size from Z.out.size)))
    clear z8
    go_wp2_with fail
    have C := fair_any L cl w.heap.size l nw ns f w8 (PL.out.below Z.out) Z.out.size (by rw [EL.out]; omega) IF.out
    rw [EL.out] at C
    refine C.mono ?_
    rintro _ w9 ⟨rfl, z9⟩
    replace Z := Lib.hid (Z.out.trans (z9.mono Z.out.size))
    clear z9 C
    go_wp2
    go_ret
    exact ⟨rfl, Z.out⟩
theorem drawTells_walk (A L : Option Addr) (la ca ll cl : Nat) (b : List Int) (l : List Pk) (k q d nw ns f : Int) (w : World) (ha : CameY w A la ca b) (hl : CameP w L ll cl l) (hq : I q) (hd : U d) (hn : I nw) (hf : I f) : Tells 3 #[.slice A la ca, .agg #[.int .i64 k, .int .i64 q, .int .u64 d], .slice L ll cl, .int .i64 nw, .int .i64 ns, .int .i64 f] w (.bool true) := by
  by_cases h1 : 200 < (la : Int)
  · exact tells_a A L la ca ll cl k q d nw ns f w h1
  · by_cases h2 : 60 < (ll : Int)
    · exact tells_b A L la ca ll cl k q d nw ns f w h1 h2
    · by_cases h6 : nw ≤ 64
      · exact tells_main A L la ca ll cl b l k q d nw ns f w ha hl (by omega) (by omega) hq hd hn hf h6
      · exact tells_big A L la ca ll cl b l k q d nw ns f w ha hl (by omega) (by omega) hq hd hn hf (by omega)
end Go.Proofs.Ytnabomdadhgeeaa
