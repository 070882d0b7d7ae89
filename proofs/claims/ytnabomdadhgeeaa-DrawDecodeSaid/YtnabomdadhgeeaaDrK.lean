/- Contract of awake: the chapter's examples. -/
import Derived.Test.YtnabomdadhgeeaaDrJ
import Derived.Test.YtnabomdadhgeeaaDrG
namespace Go.Proofs.Ytnabomdadhgeeaa
open Go.RowKit Go.Deep
attribute [local go_sem ↓] eql_pk neq_pk guard_pk
def three : List Pk := [(0, 0, 5), (0, 1, 5), (1, 0, 5)]
theorem dec_ex : dec [4, 1, 2, 9] = [(0, 1, 2)] := by decide +kernel
theorem rnd_ex : rnd 2 1 5 = three := by decide +kernel
theorem fair_ex : fair (three ++ three) 2 1 3 = true := by decide +kernel
theorem vic_ex0 : vic 0 2 3 = 0 := by decide +kernel
theorem vic_ex1 : vic 1 2 3 = 1 := by decide +kernel
theorem fit_ex : fit (1, 0, 5) 2 1 = true := by decide +kernel
theorem by_new (w : World) (a b c d : Int) : By (w.heap.size + 1) (w.alloc (.cells #[.int .u8 a, .int .u8 b, .int .u8 c, .int .u8 d] 5)) (some ⟨w.heap.size, 0, none⟩) [a, b, c, d] := fun _ => by
  refine ⟨_, _, rfl, Nat.lt_succ_self _, fun i x hx => ?_⟩
  have h := World.alloc_heap_new w (.cells #[.int .u8 a, .int .u8 b, .int .u8 c, .int .u8 d] 5)
  rw [Nat.zero_add]
  simp only [World.cell?, h]
  have hi := (List.getElem?_eq_some_iff.1 hx).1
  simp at hi
  match i, hi, hx with
  | 0, _, hx => simpa using hx
  | 1, _, hx => simpa using hx
  | 2, _, hx => simpa using hx
  | 3, _, hx => simpa using hx
set_option maxRecDepth 100000 in
set_option maxHeartbeats 2000000 in
theorem awake_any (w : World) : Tells 10 #[] w (.bool true) := by
  have ZA := Lib.hid ((Below.refl w.heap.size w).alloc (Nat.le_refl _) (.cells #[.int .u8 4, .int .u8 1, .int .u8 2, .int .u8 9] 5))
  have CD := dec_any (some ⟨w.heap.size, 0, none⟩) 4 (w.heap.size + 1) [4, 1, 2, 9] (w.alloc (.cells #[.int .u8 4, .int .u8 1, .int .u8 2, .int .u8 9] 5)) (by_new w 4 1 2 9) (by simp) (by decide) (by decide) (by decide) (by unfold Bs; decide)
  rw [dec_ex] at CD
  have HD := Lib.hid CD
  clear CD
  go_enter Try.func10, Try.ntmps10
  go_wp2_with fail
  refine HD.out.mono ?_
  rintro _ w1 ⟨A, c, rfl, ho, z1⟩
  have Z1 := Lib.hid (ZA.out.trans (z1.mono ZA.out.size))
  have OA := Lib.hid ho
  have h5 : ([(0, 1, 2)] : List Pk).length = 1 := rfl
  rw [h5]
  clear ho z1 h5 HD ZA
  go_wp2_with fail
  have CR := round_any 2 1 5 w1
  rw [rnd_ex] at CR
  refine CR.mono ?_
  rintro _ w2 ⟨R, d, rfl, hr, z2⟩
  have Z2 := Lib.hid (Z1.out.trans (z2.mono Z1.out.size))
  have PA := Lib.hid ((OA.out.below z2).pr)
  have OR := Lib.hid hr
  have hz2 := z2.size
  have h6 : three.length = 3 := rfl
  rw [h6]
  obtain ⟨a1, a2, rfl, al, ac⟩ := PA.out (by decide)
  obtain ⟨x1, x2, x3⟩ := ac 0 (0, 1, 2) rfl
  simp only [Nat.zero_mul, Nat.add_zero] at x1 x2 x3
  obtain ⟨r1, r2, rfl, rl, rc⟩ := hr.pr (by decide)
  obtain ⟨y1, y2, y3⟩ := rc 2 (1, 0, 5) rfl
  have pe1 := pe_yes (x := (0, 1, 2)) (y := (0, 1, 2)) rfl
  clear hr z2 CR ac rc h6
  go_wp2_with fail
  refine (Gives.of (vic_any 0 2 3 w2 (by unfold U; omega) (by unfold I; omega) (by unfold I; omega)) (v' := .int .i64 0) (by rw [vic_ex0])).mono ?_
  rintro _ w3 ⟨rfl, e3⟩
  rw [e3]
  clear e3 w3
  go_wp2_with fail
  refine (Gives.of (vic_any 1 2 3 w2 (by unfold U; omega) (by unfold I; omega) (by unfold I; omega)) (v' := .int .i64 1) (by rw [vic_ex1])).mono ?_
  rintro _ w3 ⟨rfl, e3⟩
  rw [e3]
  clear e3 w3
  go_wp2_with fail
  refine (Tells.of (fits_any (1, 0, 5) 2 1 w2) (v' := .bool true) (by rw [fit_ex])).mono ?_
  rintro _ w3 ⟨rfl, z3⟩
  have Z3 := Lib.hid (Z2.out.trans (z3.mono Z2.out.size))
  have OR3 : Ow w3 w1.heap.size (some ⟨r1, r2, none⟩) 3 d three := OR.out.below z3
  have hz3 := z3.size
  obtain ⟨Q, e, w4, hrun, hown, hgr, hb4⟩ := app_picks OR3 d OR3.pr.src (m := 3) rfl (by omega) (by omega)
  have RUN := Lib.hid hrun
  have OWN := Lib.hid hown
  have Z4 := Lib.hid (Z3.out.trans (hb4.mono (by have := Z1.out.size; omega)))
  clear z3 OR3 hrun hown hgr hb4 x1 x2 x3 y1 y2 y3
  go_wp2_with (at_builtin; (with_reducible refine wpList_append_run RUN.out ?_ ?_ ?_ ?_); exact ⟨_, _, rfl, rfl, rfl⟩; rfl; rfl)
  have CF := fair_any Q e w4.heap.size (three ++ three) 2 1 3 w4 OWN.out.pr (Nat.le_refl _) (by decide) (by unfold I; omega)
  rw [fair_ex] at CF
  refine CF.mono ?_
  rintro _ w5 ⟨rfl, z5⟩
  have Z5 := Lib.hid (Z4.out.trans (z5.mono Z4.out.size))
  clear z5 CF
  go_wp2
  go_ret
  exact ⟨rfl, Z5.out⟩
end Go.Proofs.Ytnabomdadhgeeaa
