/- The walk of DrawDecode. -/
import Derived.Test.YtnabomdadhgeeaaDrO
namespace Go.Proofs.Ytnabomdadhgeeaa
open Go.RowKit Go.Deep
attribute [local go_sem ↓] eql_pk neq_pk guard_pk
/-- The call owns the bytes l. -/
def Oy (w : World) (base : Nat) (A : Option Addr) (n c : Nat) (l : List Int) : Prop := w.ownsRow base 5 1 (.slice A n c) n (l.map (Value.int .u8))
theorem Oy.len {w : World} {base : Nat} {A : Option Addr} {n c : Nat} {l : List Int} (h : Oy w base A n c l) : l.length = n := by
  have := h.1
  simpa using this
theorem Oy.by {w : World} {base : Nat} {A : Option Addr} {n c : Nat} {l : List Int} (h : Oy w base A n c l) : By w.heap.size w A l ∧ n ≤ c ∧ c ≤ maxLen := by
  rcases h.2 with ⟨hv, hx⟩ | ⟨g, cap, cur, hv, hb, hg, h1, h2, _⟩
  · injection hv with hA hn hc
    subst hc
    refine ⟨fun hp => ?_, by omega, by simp⟩
    have := h.len
    omega
  · injection hv with hA _ hc
    subst hA hc
    refine ⟨fun hp => ⟨g, 0, rfl, (Array.getElem?_eq_some_iff.1 hg).1, fun j u hu => ?_⟩, h1, h2⟩
    have := World.ownsRow.cells h (g := g) rfl j (.int .u8 u) (by simp [hu])
    rw [add_zero'] at this
    rw [Nat.zero_add]
    exact this
theorem Try.info5 : (Try.prog.info? 5).map (fun i => (i.zero, i.size, i.bytes)) = some (some (.int .u8 0), 1, 1) := by kernel_rfl
theorem app_bytes {w : World} {base : Nat} {A : Option Addr} {n c : Nat} {l : List Int} (ho : Oy w base A n c l) {B : Option Addr} {m : Nat} (d : Nat) {k : List Int} {n₀ : Nat} (hk : By n₀ w B k) (hm : k.length = m) (hs : n + m ≤ 1000000) (hb : base ≤ w.heap.size) :
    ∃ A' c' w', (Builtin.append_ #[22, 22] 22 #[.slice A n c, .slice B m d]).run Try.prog w = .ok (.slice A' (n + m) c') w' ∧ Oy w' base A' (n + m) c' (l ++ k) ∧ Below base w w' := by
  obtain ⟨i0, hi0, hz⟩ := Option.map_eq_some_iff.1 Try.info5
  simp only [Prod.mk.injEq] at hz
  obtain ⟨hz0, hz1, hz2⟩ := hz
  have fin : ∀ v' w', w'.ownsRow base 5 1 v' (n + m) (l.map (Value.int .u8) ++ k.map (Value.int .u8)) → ∃ A' c', v' = .slice A' (n + m) c' ∧ Oy w' base A' (n + m) c' (l ++ k) := by
    intro v' w' h'
    rcases h'.2 with ⟨rfl, hx⟩ | ⟨g, cap, cur, rfl, hr⟩
    · have h0 : n + m = 0 := hx
      rw [h0] at h'
      exact ⟨none, 0, by rw [h0], by rw [h0]; unfold Oy; rw [List.map_append]; exact h'⟩
    · exact ⟨_, cap, rfl, by unfold Oy; rw [List.map_append]; exact h'⟩
  rcases B with _ | ad
  · have h0 : m = 0 := by
      rcases Nat.eq_zero_or_pos m with h | h
      · exact h
      · obtain ⟨_, _, h, _⟩ := hk (by omega)
        cases h
    subst h0
    obtain rfl : k = [] := List.eq_nil_of_length_eq_zero hm
    refine ⟨A, c, w, ?_, by simpa using ho, Below.refl _ _⟩
    rcases ho.2 with ⟨hv, _⟩ | ⟨g, cap, cur, hv, _, _, hnc, _⟩
    · injection hv with hA hn hc
      subst hA hn hc
      simp [Builtin.append_, run_underlying Try.underlying22, sizeOf, typeInfo, hi0, Builtin.lenOf, Builtin.firstCells]
    · injection hv with hA hn hc
      subst hA hc
      simp [Builtin.append_, run_underlying Try.underlying22, sizeOf, typeInfo, hi0, Builtin.lenOf, Builtin.firstCells, hnc, storeCells]
  · have hc : ∀ j u, k[j]? = some u → w.cell? (ad.add j) = some (.int .u8 u) := fun j u hu => by
      obtain ⟨b, off, h, _, h'⟩ := hk (by have := (List.getElem?_eq_some_iff.1 hu).1; omega)
      injection h with h
      subst h
      rw [add_plain']
      exact h' j u hu
    obtain ⟨v', w', hrun, h2, h3, _, h5⟩ := run_append_own_at (P := Try.prog) w base 22 22 5 i0 (.int .u8 0) 1 1 Try.underlying22 hi0 hz0 hz1 hz2 rfl (by omega) _ n _ ho ad m d (k.map (Value.int .u8)) (by simp [hm])
      (fun j u hu => by
        simp only [List.getElem?_map, Option.map_eq_some_iff] at hu
        obtain ⟨x, hx, rfl⟩ := hu
        exact hc j x hx) (fun u hu => by simp only [List.mem_map] at hu; obtain ⟨x, _, rfl⟩ := hu; rfl) (by simp only [maxLen]; omega) (by omega) hb
    obtain ⟨A', c', rfl, h6⟩ := fin v' w' h2
    exact ⟨A', c', w', hrun, h6, (Below.refl base w).grown h3 hb (fun j hj => (World.ownsRow.lt ho j hj).1)⟩
theorem dec_len (b : List Int) : (dec b).length = b.length / 3 := by unfold dec; rw [decN_len]
theorem dec_at {b : List Int} {i : Nat} (h : i < b.length / 3) : (dec b)[i]? = some (bt b i) := by simp [dec, decN, h]
theorem bt_app {a b : List Int} {i : Nat} (h : i < a.length / 3) : bt (a ++ b) i = bt a i := by
  unfold bt
  simp only [List.getD_eq_getElem?_getD]
  rw [List.getElem?_append_left (by omega), List.getElem?_append_left (by omega), List.getElem?_append_left (by omega)]
theorem Bs.app {a b : List Int} (h : Bs a) (h' : Bs b) : Bs (a ++ b) := fun x hx => by
  rcases List.mem_append.1 hx with hx | hx
  · exact h x hx
  · exact h' x hx
theorem tdiv3 (n : Nat) : (n : Int).tdiv 3 = ((n / 3 : Nat) : Int) := by rw [Int.tdiv_eq_ediv_of_nonneg (by omega)]; omega
theorem decode_a (A B : Option Addr) (la ca lb cb : Nat) (i : Int) (w : World) (h : 200 < (la : Int)) : Tells 6 #[.slice A la ca, .slice B lb cb, .int .i64 i] w (.bool true) := by
  have d0 : decide (200 < (la : Int)) = true := decide_eq_true h
  go_enter Try.func6, Try.ntmps6
  go_wp2_with fail
  refine (awake_any _).mono ?_
  rintro _ w1 ⟨rfl, z1⟩
  have Z := Lib.hid z1
  clear z1
  go_wp2
  go_ret
  exact ⟨rfl, Z.out⟩
theorem decode_b (A B : Option Addr) (la ca lb cb : Nat) (i : Int) (w : World) (h0 : ¬ 200 < (la : Int)) (h : 200 < (lb : Int)) : Tells 6 #[.slice A la ca, .slice B lb cb, .int .i64 i] w (.bool true) := by
  have d0 : decide (200 < (la : Int)) = false := decide_eq_false h0
  have d1 : decide (200 < (lb : Int)) = true := decide_eq_true h
  go_enter Try.func6, Try.ntmps6
  go_wp2_with fail
  refine (awake_any _).mono ?_
  rintro _ w1 ⟨rfl, z1⟩
  have Z := Lib.hid z1
  clear z1
  go_wp2
  go_ret
  exact ⟨rfl, Z.out⟩
set_option maxHeartbeats 4000000 in
theorem decode_none (A B : Option Addr) (la ca lb cb : Nat) (a b : List Int) (i : Int) (w : World) (ha : CameY w A la ca a) (hb : CameY w B lb cb b) (h1 : la ≤ 200) (h2 : lb ≤ 200) (h : i < 0) : Tells 6 #[.slice A la ca, .slice B lb cb, .int .i64 i] w (.bool true) := by
  obtain ⟨ea, hca, hcam, ya, sa⟩ := ha
  obtain ⟨eb, hcb, hcbm, yb, sb⟩ := hb
  have EA := Lib.hid ea
  have EB := Lib.hid eb
  have YA := Lib.hid ya
  have YB := Lib.hid yb
  have SA := Lib.hid sa
  have SB := Lib.hid sb
  have HCA := Lib.hid hcam
  have d0 : decide (200 < (la : Int)) = false := decide_eq_false (by omega)
  have d1 : decide (200 < (lb : Int)) = false := decide_eq_false (by omega)
  have d2 : decide (i < 0) = true := decide_eq_true h
  have t1 := tdiv3 la
  have t2 := tdiv3 (la + lb)
  rw [show ((la + lb : Nat) : Int) = (la : Int) + (lb : Int) by omega] at t2
  have N1 := Lib.hid (show (dec a).length = la / 3 by rw [dec_len, ea])
  have N2 := Lib.hid (show (dec (a ++ b)).length = (la + lb) / 3 by rw [dec_len, List.length_append, ea, eb])
  have n1l : la / 3 ≤ 1000 := by omega
  have n2l : (la + lb) / 3 ≤ 1000 := by omega
  have n12 : la / 3 ≤ (la + lb) / 3 := by omega
  clear ea eb ya yb sa sb hcam hcbm
  generalize la / 3 = n1 at *
  generalize (la + lb) / 3 = n2 at *
  have d3 : ((n1 : Int) != (n1 : Int)) = false := by simp
  have d4 : ((n2 : Int) != (n2 : Int)) = false := by simp
  go_enter Try.func6, Try.ntmps6
  go_wp2_with fail
  refine (awake_any _).mono ?_
  rintro _ w1 ⟨rfl, z1⟩
  have Z := Lib.hid z1
  clear z1
  go_wp2_with fail
  have C := dec_any A ca w.heap.size a w1 (YA.out.below Z.out) Z.out.size (by rw [EA.out]; omega) (by rw [EA.out]; exact hca) HCA.out SA.out
  rw [EA.out] at C
  refine C.mono ?_
  rintro _ w2 ⟨X, c2, rfl, ox, z2⟩
  rw [N1.out] at ox ⊢
  have OX := Lib.hid ox
  have Z2 := Lib.hid (Z.out.trans (z2.mono Z.out.size))
  clear C ox z2
  have o0 : Oy w2 w2.heap.size none 0 0 [] := World.ownsRow_nil _ _ _ _
  obtain ⟨A1, c3, w3, run3, own3, b3⟩ := app_bytes o0 ca (YA.out.below Z2.out) EA.out (by omega) (Nat.le_refl _)
  rw [Nat.zero_add] at run3 own3
  rw [List.nil_append] at own3
  obtain ⟨A2, c4, w4, run4, own4, b4⟩ := app_bytes own3 cb (YB.out.below (Z2.out.trans (b3.mono Z2.out.size))) EB.out (by omega) b3.size
  have RUN3 := Lib.hid run3
  have RUN4 := Lib.hid run4
  have OW4 := Lib.hid own4
  have B4 := Lib.hid (b3.trans b4)
  clear run3 run4 own3 own4 b3 b4 o0
  go_wp2_with (at_builtin; first | ((with_reducible refine wpList_append_run RUN3.out ?_ ?_ ?_ ?_); exact ⟨_, _, rfl, rfl, rfl⟩; rfl; rfl) | ((with_reducible refine wpList_append_run RUN4.out ?_ ?_ ?_ ?_); exact ⟨_, _, rfl, rfl, rfl⟩; rfl; rfl))
  have C := dec_any A2 c4 w4.heap.size (a ++ b) w4 OW4.out.by.1 (Nat.le_refl _) (by rw [OW4.out.len]; omega) (by rw [OW4.out.len]; exact OW4.out.by.2.1) OW4.out.by.2.2 (SA.out.app SB.out)
  rw [OW4.out.len] at C
  refine C.mono ?_
  rintro _ w5 ⟨Y, c5, rfl, oy, z5⟩
  rw [N2.out] at oy ⊢
  have OY := Lib.hid oy
  have Z5 := Lib.hid (B4.out.trans (z5.mono B4.out.size))
  clear C oy z5
  go_wp2
  go_ret
  exact ⟨rfl, Z2.out.trans (Z5.out.mono Z2.out.size)⟩
set_option maxHeartbeats 4000000 in
theorem decode_hi (A B : Option Addr) (la ca lb cb : Nat) (a b : List Int) (i : Int) (w : World) (ha : CameY w A la ca a) (hb : CameY w B lb cb b) (h1 : la ≤ 200) (h2 : lb ≤ 200) (h0 : ¬ i < 0) (h : ((la / 3 : Nat) : Int) ≤ i) : Tells 6 #[.slice A la ca, .slice B lb cb, .int .i64 i] w (.bool true) := by
  obtain ⟨ea, hca, hcam, ya, sa⟩ := ha
  obtain ⟨eb, hcb, hcbm, yb, sb⟩ := hb
  have EA := Lib.hid ea
  have EB := Lib.hid eb
  have YA := Lib.hid ya
  have YB := Lib.hid yb
  have SA := Lib.hid sa
  have SB := Lib.hid sb
  have HCA := Lib.hid hcam
  have d0 : decide (200 < (la : Int)) = false := decide_eq_false (by omega)
  have d1 : decide (200 < (lb : Int)) = false := decide_eq_false (by omega)
  have d2 : decide (i < 0) = false := decide_eq_false h0
  have t1 := tdiv3 la
  have t2 := tdiv3 (la + lb)
  rw [show ((la + lb : Nat) : Int) = (la : Int) + (lb : Int) by omega] at t2
  have N1 := Lib.hid (show (dec a).length = la / 3 by rw [dec_len, ea])
  have N2 := Lib.hid (show (dec (a ++ b)).length = (la + lb) / 3 by rw [dec_len, List.length_append, ea, eb])
  have n1l : la / 3 ≤ 1000 := by omega
  have n2l : (la + lb) / 3 ≤ 1000 := by omega
  have n12 : la / 3 ≤ (la + lb) / 3 := by omega
  clear ea eb ya yb sa sb hcam hcbm
  generalize la / 3 = n1 at *
  generalize (la + lb) / 3 = n2 at *
  have d3 : ((n1 : Int) != (n1 : Int)) = false := by simp
  have d4 : ((n2 : Int) != (n2 : Int)) = false := by simp
  go_enter Try.func6, Try.ntmps6
  go_wp2_with fail
  refine (awake_any _).mono ?_
  rintro _ w1 ⟨rfl, z1⟩
  have Z := Lib.hid z1
  clear z1
  go_wp2_with fail
  have C := dec_any A ca w.heap.size a w1 (YA.out.below Z.out) Z.out.size (by rw [EA.out]; omega) (by rw [EA.out]; exact hca) HCA.out SA.out
  rw [EA.out] at C
  refine C.mono ?_
  rintro _ w2 ⟨X, c2, rfl, ox, z2⟩
  rw [N1.out] at ox ⊢
  have OX := Lib.hid ox
  have Z2 := Lib.hid (Z.out.trans (z2.mono Z.out.size))
  clear C ox z2
  have o0 : Oy w2 w2.heap.size none 0 0 [] := World.ownsRow_nil _ _ _ _
  obtain ⟨A1, c3, w3, run3, own3, b3⟩ := app_bytes o0 ca (YA.out.below Z2.out) EA.out (by omega) (Nat.le_refl _)
  rw [Nat.zero_add] at run3 own3
  rw [List.nil_append] at own3
  obtain ⟨A2, c4, w4, run4, own4, b4⟩ := app_bytes own3 cb (YB.out.below (Z2.out.trans (b3.mono Z2.out.size))) EB.out (by omega) b3.size
  have RUN3 := Lib.hid run3
  have RUN4 := Lib.hid run4
  have OW4 := Lib.hid own4
  have B4 := Lib.hid (b3.trans b4)
  clear run3 run4 own3 own4 b3 b4 o0
  go_wp2_with (at_builtin; first | ((with_reducible refine wpList_append_run RUN3.out ?_ ?_ ?_ ?_); exact ⟨_, _, rfl, rfl, rfl⟩; rfl; rfl) | ((with_reducible refine wpList_append_run RUN4.out ?_ ?_ ?_ ?_); exact ⟨_, _, rfl, rfl, rfl⟩; rfl; rfl))
  have C := dec_any A2 c4 w4.heap.size (a ++ b) w4 OW4.out.by.1 (Nat.le_refl _) (by rw [OW4.out.len]; omega) (by rw [OW4.out.len]; exact OW4.out.by.2.1) OW4.out.by.2.2 (SA.out.app SB.out)
  rw [OW4.out.len] at C
  refine C.mono ?_
  rintro _ w5 ⟨Y, c5, rfl, oy, z5⟩
  rw [N2.out] at oy ⊢
  have OY := Lib.hid oy
  have Z5 := Lib.hid (B4.out.trans (z5.mono B4.out.size))
  clear C oy z5
  have d5 : decide ((n1 : Int) ≤ i) = true := decide_eq_true h
  go_wp2
  go_ret
  exact ⟨rfl, Z2.out.trans (Z5.out.mono Z2.out.size)⟩
set_option maxHeartbeats 4000000 in
theorem decode_in (A B : Option Addr) (la ca lb cb : Nat) (a b : List Int) (t : Nat) (w : World) (ha : CameY w A la ca a) (hb : CameY w B lb cb b) (h1 : la ≤ 200) (h2 : lb ≤ 200) (h : t < la / 3) : Tells 6 #[.slice A la ca, .slice B lb cb, .int .i64 (t : Int)] w (.bool true) := by
  obtain ⟨ea, hca, hcam, ya, sa⟩ := ha
  obtain ⟨eb, hcb, hcbm, yb, sb⟩ := hb
  have EA := Lib.hid ea
  have EB := Lib.hid eb
  have YA := Lib.hid ya
  have YB := Lib.hid yb
  have SA := Lib.hid sa
  have SB := Lib.hid sb
  have HCA := Lib.hid hcam
  have d0 : decide (200 < (la : Int)) = false := decide_eq_false (by omega)
  have d1 : decide (200 < (lb : Int)) = false := decide_eq_false (by omega)
  have d2 : decide ((t : Int) < 0) = false := decide_eq_false (by omega)
  have t1 := tdiv3 la
  have t2 := tdiv3 (la + lb)
  rw [show ((la + lb : Nat) : Int) = (la : Int) + (lb : Int) by omega] at t2
  have N1 := Lib.hid (show (dec a).length = la / 3 by rw [dec_len, ea])
  have N2 := Lib.hid (show (dec (a ++ b)).length = (la + lb) / 3 by rw [dec_len, List.length_append, ea, eb])
  have n1l : la / 3 ≤ 1000 := by omega
  have n2l : (la + lb) / 3 ≤ 1000 := by omega
  have n12 : la / 3 ≤ (la + lb) / 3 := by omega
  clear ea eb ya yb sa sb hcam hcbm
  generalize la / 3 = n1 at *
  generalize (la + lb) / 3 = n2 at *
  have d3 : ((n1 : Int) != (n1 : Int)) = false := by simp
  have d4 : ((n2 : Int) != (n2 : Int)) = false := by simp
  go_enter Try.func6, Try.ntmps6
  go_wp2_with fail
  refine (awake_any _).mono ?_
  rintro _ w1 ⟨rfl, z1⟩
  have Z := Lib.hid z1
  clear z1
  go_wp2_with fail
  have C := dec_any A ca w.heap.size a w1 (YA.out.below Z.out) Z.out.size (by rw [EA.out]; omega) (by rw [EA.out]; exact hca) HCA.out SA.out
  rw [EA.out] at C
  refine C.mono ?_
  rintro _ w2 ⟨X, c2, rfl, ox, z2⟩
  rw [N1.out] at ox ⊢
  have OX := Lib.hid ox
  have Z2 := Lib.hid (Z.out.trans (z2.mono Z.out.size))
  clear C ox z2
  have o0 : Oy w2 w2.heap.size none 0 0 [] := World.ownsRow_nil _ _ _ _
  obtain ⟨A1, c3, w3, run3, own3, b3⟩ := app_bytes o0 ca (YA.out.below Z2.out) EA.out (by omega) (Nat.le_refl _)
  rw [Nat.zero_add] at run3 own3
  rw [List.nil_append] at own3
  obtain ⟨A2, c4, w4, run4, own4, b4⟩ := app_bytes own3 cb (YB.out.below (Z2.out.trans (b3.mono Z2.out.size))) EB.out (by omega) b3.size
  have RUN3 := Lib.hid run3
  have RUN4 := Lib.hid run4
  have OW4 := Lib.hid own4
  have B4 := Lib.hid (b3.trans b4)
  clear run3 run4 own3 own4 b3 b4 o0
  go_wp2_with (at_builtin; first | ((with_reducible refine wpList_append_run RUN3.out ?_ ?_ ?_ ?_); exact ⟨_, _, rfl, rfl, rfl⟩; rfl; rfl) | ((with_reducible refine wpList_append_run RUN4.out ?_ ?_ ?_ ?_); exact ⟨_, _, rfl, rfl, rfl⟩; rfl; rfl))
  have C := dec_any A2 c4 w4.heap.size (a ++ b) w4 OW4.out.by.1 (Nat.le_refl _) (by rw [OW4.out.len]; omega) (by rw [OW4.out.len]; exact OW4.out.by.2.1) OW4.out.by.2.2 (SA.out.app SB.out)
  rw [OW4.out.len] at C
  refine C.mono ?_
  rintro _ w5 ⟨Y, c5, rfl, oy, z5⟩
  rw [N2.out] at oy ⊢
  have OY := Lib.hid oy
  have Z5 := Lib.hid (B4.out.trans (z5.mono B4.out.size))
  clear C oy z5
  have tl : t < (dec a).length := by rw [N1.out]; exact h
  have tl2 : t < (dec (a ++ b)).length := by rw [N2.out]; omega
  obtain ⟨xb, xo, rfl, xl, xc⟩ := OX.out.pr (by omega)
  obtain ⟨yb, yo, rfl, yl, yc⟩ := OY.out.pr (by omega)
  have h3 : t < a.length / 3 := by have := dec_len a; omega
  have h3' : t < (a ++ b).length / 3 := by have := dec_len (a ++ b); omega
  obtain ⟨x0, x1, x2⟩ := xc t _ (dec_at h3)
  obtain ⟨y0, y1, y2⟩ := yc t _ (dec_at h3')
  rw [bt_app h3] at y0 y1 y2
  obtain ⟨ab, ao, rfl, al, ac⟩ := YA.out (by omega)
  have u1 := ac (3 * t + 1) _ (List.getElem?_eq_getElem (by omega))
  have u2 := ac (3 * t + 2) _ (List.getElem?_eq_getElem (by omega))
  have hbt : bt a t = (a[3 * t] % 4, a[3 * t + 1], a[3 * t + 2]) := by unfold bt; rw [getD_at (by omega), getD_at (by omega), getD_at (by omega)]
  rw [hbt] at x0 x1 x2 y0 y1 y2
  have s0 := SA.out.at (i := 3 * t) (by omega)
  have s1 := SA.out.at (i := 3 * t + 1) (by omega)
  have s2 := SA.out.at (i := 3 * t + 2) (by omega)
  have la3 : 3 * t + 2 < la := by have := EA.out; omega
  generalize a[3 * t] = v0 at *
  generalize a[3 * t + 1] = v1 at *
  generalize a[3 * t + 2] = v2 at *
  have ZZ := Z2.out.trans (Z5.out.mono Z2.out.size)
  have u1' : w5.cell? ⟨ab, ao + (3 * t + 1), none⟩ = some (.int .u8 v1) := (ZZ.cell (p := ⟨ab, ao + (3 * t + 1), none⟩) al).trans u1
  have u2' : w5.cell? ⟨ab, ao + (3 * t + 2), none⟩ = some (.int .u8 v2) := (ZZ.cell (p := ⟨ab, ao + (3 * t + 2), none⟩) al).trans u2
  have x0' : w5.cell? ⟨xb, xo + t * 3, none⟩ = some (.int .i64 (v0 % 4)) := (Z5.out.cell (p := ⟨xb, xo + t * 3, none⟩) xl).trans x0
  have x1' : w5.cell? ⟨xb, xo + t * 3 + 1, none⟩ = some (.int .i64 v1) := (Z5.out.cell (p := ⟨xb, xo + t * 3 + 1, none⟩) xl).trans x1
  have x2' : w5.cell? ⟨xb, xo + t * 3 + 2, none⟩ = some (.int .u64 v2) := (Z5.out.cell (p := ⟨xb, xo + t * 3 + 2, none⟩) xl).trans x2
  dsimp only at y0 y1 y2
  have ZH := Lib.hid ZZ
  clear x0 x1 x2 u1 u2 xc yc ac hbt h3 h3' tl tl2 ZZ
  have pe1 := pe_yes (x := (v0 % 4, v1, v2)) (y := (v0 % 4, v1, v2)) rfl
  have m0 : 0 ≤ v0 % 4 := by omega
  have m1 : v0 % 4 < 4 := by omega
  generalize v0 % 4 = v3 at *
  have d5 : decide ((n1 : Int) ≤ (t : Int)) = false := decide_eq_false (by omega)
  have d5' : decide (n1 ≤ t) = false := decide_eq_false (by omega)
  have q1 : decide (0 ≤ v3) = true := decide_eq_true m0
  have q2 : decide (v3 < 4) = true := decide_eq_true m1
  have q3 : (v1 == v1) = true := by simp
  have q4 : (v2 == v2) = true := by simp
  have g1 : t < n2 := by omega
  have k1 : IntKind.i64.wrap (3 * (t : Int)) = ((3 * t : Nat) : Int) := by rw [IntKind.wrap_i64]; omega
  have k2 : IntKind.i64.wrap (((3 * t : Nat) : Int) + 1) = ((3 * t + 1 : Nat) : Int) := by rw [IntKind.wrap_i64]; omega
  have k3 : IntKind.i64.wrap (((3 * t : Nat) : Int) + 2) = ((3 * t + 2 : Nat) : Int) := by rw [IntKind.wrap_i64]; omega
  have i1 : (3 * (t : Int) + 1) < (la : Int) := by omega
  have i2 : (3 * (t : Int) + 2) < (la : Int) := by omega
  have i3 : (0 : Int) ≤ 3 * (t : Int) + 1 := by omega
  have i4 : (0 : Int) ≤ 3 * (t : Int) + 2 := by omega
  have z1 : (3 * (t : Int) + 1).toNat = 3 * t + 1 := by omega
  have z2 : (3 * (t : Int) + 2).toNat = 3 * t + 2 := by omega
  have c1 : IntKind.i64.wrap v1 = v1 := by rw [IntKind.wrap_i64]; omega
  have c2 : IntKind.u64.wrap v2 = v2 := by rw [IntKind.wrap_u64]; omega
  go_wp2_with fail
  go_quiet (fail)
  go_wp2
  go_ret
  exact ⟨rfl, ZH.out.trans ⟨rfl, rfl, rfl, Nat.le_refl _, fun _ _ => rfl⟩⟩
theorem drawDecode_walk (A B : Option Addr) (la ca lb cb : Nat) (a b : List Int) (i : Int) (w : World) (ha : CameY w A la ca a) (hb : CameY w B lb cb b) : Tells 6 #[.slice A la ca, .slice B lb cb, .int .i64 i] w (.bool true) := by
  by_cases h1 : 200 < (la : Int)
  · exact decode_a A B la ca lb cb i w h1
  · by_cases h2 : 200 < (lb : Int)
    · exact decode_b A B la ca lb cb i w h1 h2
    · by_cases h3 : i < 0
      · exact decode_none A B la ca lb cb a b i w ha hb (by omega) (by omega) h3
      · by_cases h4 : ((la / 3 : Nat) : Int) ≤ i
        · exact decode_hi A B la ca lb cb a b i w ha hb (by omega) (by omega) h3 h4
        · obtain ⟨t, rfl⟩ : ∃ t : Nat, i = t := ⟨i.toNat, by omega⟩
          exact decode_in A B la ca lb cb a b t w ha hb (by omega) (by omega) (by omega)
end Go.Proofs.Ytnabomdadhgeeaa
