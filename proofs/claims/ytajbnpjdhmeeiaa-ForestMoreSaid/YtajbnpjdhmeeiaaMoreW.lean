/- The walk of ForestMore. -/
import Derived.Test.YtajbnpjdhmeeiaaMoreM
namespace Go.Proofs.Ytajbnpjdhmeeiaa
open Go.RowKit Go.Deep
theorem src_one (w : World) (k : Int) : Src (w.alloc (.cells #[.int .i64 k, .slice none 0 0] 36)) (some ⟨w.heap.size, 0, none⟩) [(k, [])] [(none, 0)] := by
  refine ⟨rfl, (fun e => by cases e), fun ad e j v hv => ?_⟩
  cases e
  rw [add_zero']
  have h := World.alloc_heap_new w (.cells #[.int .i64 k, .slice none 0 0] 36)
  simp only [World.cell?, h]
  have hj := (List.getElem?_eq_some_iff.1 hv).1
  simp [flat] at hj
  match j, hj, hv with
  | 0, _, hv => simpa [flat] using hv
  | 1, _, hv => simpa [flat] using hv
theorem rts_le (T : List Tsk) (h : Sm T) : (rts T).length ≤ 1000 := by
  unfold rts
  split
  · have := rtN_le T T.length
    have := h.1
    omega
  · simp
/-- What the two appends come to. -/
theorem more_made {T : List Tsk} {A : Option Addr} (c : Nat) (k : Int) {w w2 : World} (hT : Tk w.heap.size w2 A T) (hz : w.heap.size ≤ w2.heap.size) (hl : T.length ≤ 1000) :
    ∃ Q1 d1 w3 Q2 d2 w4 Ks, (Builtin.append_ #[22, 22] 22 #[.slice none 0 0, .slice A T.length c]).run Try.prog w2 = .ok (.slice Q1 T.length d1) w3 ∧
      (Builtin.append_ #[22, 22] 22 #[.slice Q1 T.length d1, .slice (some ⟨w3.heap.size, 0, none⟩) 1 1]).run Try.prog (w3.alloc (.cells #[.int .i64 k, .slice none 0 0] 36)) = .ok (.slice Q2 (T.length + 1) d2) w4 ∧
      Blt w4 w2.heap.size Q2 (T.length + 1) d2 (more T k) Ks ∧ Below w2.heap.size w2 w4 := by
  obtain ⟨Ks, src, kok⟩ := hT.src
  obtain ⟨Q1, d1, w3, run1, blt1, g1⟩ := app_tasks (Blt.nil w2 w2.heap.size) c src (kok.kept (fun _ _ _ => rfl) hz (fun _ _ h => h)) rfl (by omega) (Nat.le_refl _)
  simp only [Nat.zero_add, List.nil_append] at run1 blt1
  have b3 : Below w2.heap.size w2 w3 := (Below.refl _ _).grown g1 (Nat.le_refl _) (fun k e => by cases e)
  have blt1' := blt1.kept ((Below.refl w3.heap.size w3).alloc (Nat.le_refl _) (.cells #[.int .i64 k, .slice none 0 0] 36))
  obtain ⟨Q2, d2, w4, run2, blt2, g2⟩ := app_tasks (m := 1) blt1' 1 (src_one w3 k) (fun i x kk hx _ => by
    have hi := (List.getElem?_eq_some_iff.1 hx).1
    have : i = 0 := by simp at hi; omega
    subst this
    cases hx
    intro hp
    simp at hp) rfl (by omega) (by have := b3.size; simp; omega)
  exact ⟨Q1, d1, w3, Q2, d2, w4, _, run1, run2, blt2, (b3.alloc b3.size _).grown g2 (by have := b3.size; simp; omega) (fun k e => (World.ownsRow.lt blt1'.2.2.1 k e).1)⟩
theorem more_few (A : Option Addr) (c : Nat) (T : List Tsk) (k i : Int) (w : World) (ha : Came w A T.length T) (h : few T = false) : Tells 8 #[.slice A T.length c, .int .i64 k, .int .i64 i] w (.bool true) := by
  have HA := Lib.hid ha
  have H := Lib.hid h
  clear ha h
  go_enter Try.func8, Try.ntmps8
  go_wp2_with fail
  refine (awake_any _).mono ?_
  rintro _ w1 ⟨rfl, z1⟩
  have Z := Lib.hid z1
  clear z1
  go_wp2_with fail
  refine (Gives.of (few_any A c w.heap.size T w1 (HA.out.2.2.2.below Z.out) HA.out.2.1 HA.out.2.2.1) (v' := .bool false) (by rw [H.out])).mono ?_
  rintro _ _ ⟨rfl, rfl⟩
  go_wp2
  go_ret
  exact ⟨rfl, Z.out⟩
theorem more_may (A : Option Addr) (c : Nat) (T : List Tsk) (k i : Int) (w : World) (ha : Came w A T.length T) (h : few T = true) (hm : may T = false) : Tells 8 #[.slice A T.length c, .int .i64 k, .int .i64 i] w (.bool true) := by
  have HA := Lib.hid ha
  have H := Lib.hid h
  have HS := Lib.hid (few_sm h)
  have hs1 := (few_sm h).1
  have HM := Lib.hid hm
  clear ha h hm
  go_enter Try.func8, Try.ntmps8
  go_wp2_with fail
  refine (awake_any _).mono ?_
  rintro _ w1 ⟨rfl, z1⟩
  have Z := Lib.hid z1
  clear z1
  go_wp2_with fail
  refine (Gives.of (few_any A c w.heap.size T w1 (HA.out.2.2.2.below Z.out) HA.out.2.1 HA.out.2.2.1) (v' := .bool true) (by rw [H.out])).mono ?_
  rintro _ _ ⟨rfl, rfl⟩
  go_wp2_with fail
  refine (Tells.of (may_any A c w.heap.size T _ (HA.out.2.2.2.below Z.out) Z.out.size HS.out) (v' := .bool false) (by rw [HM.out])).mono ?_
  rintro _ w2 ⟨rfl, z2⟩
  replace Z := Lib.hid (Z.out.trans (z2.mono Z.out.size))
  clear z2
  go_wp2
  go_ret
  exact ⟨rfl, Z.out⟩
set_option maxRecDepth 100000 in
set_option maxHeartbeats 2000000 in
theorem more_30 (A : Option Addr) (c : Nat) (T : List Tsk) (k i : Int) (w : World) (ha : Came w A T.length T) (h : few T = true) (hm : may T = true) (h1 : ¬ T.length < 30) : Tells 8 #[.slice A T.length c, .int .i64 k, .int .i64 i] w (.bool true) := by
  have SM := Lib.hid (sm_more (k := k) h)
  have MM := Lib.hid (may_more_no (k := k) hm (by omega))
  have HA := Lib.hid ha
  have H := Lib.hid h
  have HS := Lib.hid (few_sm h)
  have hs1 := (few_sm h).1
  have HM := Lib.hid hm
  clear ha h hm
  go_enter Try.func8, Try.ntmps8
  go_wp2_with fail
  refine (awake_any _).mono ?_
  rintro _ w1 ⟨rfl, z1⟩
  have Z := Lib.hid z1
  clear z1
  go_wp2_with fail
  refine (Gives.of (few_any A c w.heap.size T w1 (HA.out.2.2.2.below Z.out) HA.out.2.1 HA.out.2.2.1) (v' := .bool true) (by rw [H.out])).mono ?_
  rintro _ _ ⟨rfl, rfl⟩
  go_wp2_with fail
  refine (Tells.of (may_any A c w.heap.size T _ (HA.out.2.2.2.below Z.out) Z.out.size HS.out) (v' := .bool true) (by rw [HM.out])).mono ?_
  rintro _ w2 ⟨rfl, z2⟩
  replace Z := Lib.hid (Z.out.trans (z2.mono Z.out.size))
  clear z2
  obtain ⟨Q1, d1, w3, Q2, d2, w4, Ks, run1, run2, blt, hb4⟩ := more_made c k (HA.out.2.2.2.below Z.out) Z.out.size hs1
  have RUN1 := Lib.hid run1
  have RUN2 := Lib.hid run2
  have BLT := Lib.hid blt
  replace Z := Lib.hid (Z.out.trans (hb4.mono Z.out.size))
  clear run1 run2 blt hb4
  go_wp2_with (first | (at_builtin; (with_reducible refine wpList_append_run RUN1.out ?_ ?_ ?_ ?_); exact ⟨_, _, rfl, rfl, rfl⟩; rfl; rfl) | (at_builtin; (with_reducible refine wpList_append_run RUN2.out ?_ ?_ ?_ ?_); exact ⟨_, _, rfl, rfl, rfl⟩; rfl; rfl))
  have C := may_any Q2 d2 w4.heap.size (more T k) w4 BLT.out.tk (Nat.le_refl _) SM.out
  rw [more_len, MM.out] at C
  refine C.mono ?_
  rintro _ w5 ⟨rfl, z5⟩
  replace Z := Lib.hid (Z.out.trans (z5.mono Z.out.size))
  replace BLT := Lib.hid (BLT.out.kept z5)
  clear z5 C RUN1 RUN2
  go_wp2
  go_ret
  exact ⟨rfl, Z.out⟩
set_option maxRecDepth 100000 in
set_option maxHeartbeats 2000000 in
theorem more_lo (A : Option Addr) (c : Nat) (T : List Tsk) (k i : Int) (w : World) (ha : Came w A T.length T) (h : few T = true) (hm : may T = true) (h1 : T.length < 30) (h2 : k < 0) : Tells 8 #[.slice A T.length c, .int .i64 k, .int .i64 i] w (.bool true) := by
  have SM := Lib.hid (sm_more (k := k) h)
  have MM := Lib.hid (may_more_no (k := k) hm (by omega))
  have HA := Lib.hid ha
  have H := Lib.hid h
  have HS := Lib.hid (few_sm h)
  have hs1 := (few_sm h).1
  have HM := Lib.hid hm
  clear ha h hm
  go_enter Try.func8, Try.ntmps8
  go_wp2_with fail
  refine (awake_any _).mono ?_
  rintro _ w1 ⟨rfl, z1⟩
  have Z := Lib.hid z1
  clear z1
  go_wp2_with fail
  refine (Gives.of (few_any A c w.heap.size T w1 (HA.out.2.2.2.below Z.out) HA.out.2.1 HA.out.2.2.1) (v' := .bool true) (by rw [H.out])).mono ?_
  rintro _ _ ⟨rfl, rfl⟩
  go_wp2_with fail
  refine (Tells.of (may_any A c w.heap.size T _ (HA.out.2.2.2.below Z.out) Z.out.size HS.out) (v' := .bool true) (by rw [HM.out])).mono ?_
  rintro _ w2 ⟨rfl, z2⟩
  replace Z := Lib.hid (Z.out.trans (z2.mono Z.out.size))
  clear z2
  obtain ⟨Q1, d1, w3, Q2, d2, w4, Ks, run1, run2, blt, hb4⟩ := more_made c k (HA.out.2.2.2.below Z.out) Z.out.size hs1
  have RUN1 := Lib.hid run1
  have RUN2 := Lib.hid run2
  have BLT := Lib.hid blt
  replace Z := Lib.hid (Z.out.trans (hb4.mono Z.out.size))
  clear run1 run2 blt hb4
  go_wp2_with (first | (at_builtin; (with_reducible refine wpList_append_run RUN1.out ?_ ?_ ?_ ?_); exact ⟨_, _, rfl, rfl, rfl⟩; rfl; rfl) | (at_builtin; (with_reducible refine wpList_append_run RUN2.out ?_ ?_ ?_ ?_); exact ⟨_, _, rfl, rfl, rfl⟩; rfl; rfl))
  have C := may_any Q2 d2 w4.heap.size (more T k) w4 BLT.out.tk (Nat.le_refl _) SM.out
  rw [more_len, MM.out] at C
  refine C.mono ?_
  rintro _ w5 ⟨rfl, z5⟩
  replace Z := Lib.hid (Z.out.trans (z5.mono Z.out.size))
  replace BLT := Lib.hid (BLT.out.kept z5)
  clear z5 C RUN1 RUN2
  go_wp2
  go_ret
  exact ⟨rfl, Z.out⟩
set_option maxRecDepth 100000 in
set_option maxHeartbeats 2000000 in
theorem more_hi (A : Option Addr) (c : Nat) (T : List Tsk) (k i : Int) (w : World) (ha : Came w A T.length T) (h : few T = true) (hm : may T = true) (h1 : T.length < 30) (h2 : 0 ≤ k) (h3 : 20 < k) : Tells 8 #[.slice A T.length c, .int .i64 k, .int .i64 i] w (.bool true) := by
  have SM := Lib.hid (sm_more (k := k) h)
  have MM := Lib.hid (may_more_no (k := k) hm (by omega))
  have HA := Lib.hid ha
  have H := Lib.hid h
  have HS := Lib.hid (few_sm h)
  have hs1 := (few_sm h).1
  have HM := Lib.hid hm
  clear ha h hm
  go_enter Try.func8, Try.ntmps8
  go_wp2_with fail
  refine (awake_any _).mono ?_
  rintro _ w1 ⟨rfl, z1⟩
  have Z := Lib.hid z1
  clear z1
  go_wp2_with fail
  refine (Gives.of (few_any A c w.heap.size T w1 (HA.out.2.2.2.below Z.out) HA.out.2.1 HA.out.2.2.1) (v' := .bool true) (by rw [H.out])).mono ?_
  rintro _ _ ⟨rfl, rfl⟩
  go_wp2_with fail
  refine (Tells.of (may_any A c w.heap.size T _ (HA.out.2.2.2.below Z.out) Z.out.size HS.out) (v' := .bool true) (by rw [HM.out])).mono ?_
  rintro _ w2 ⟨rfl, z2⟩
  replace Z := Lib.hid (Z.out.trans (z2.mono Z.out.size))
  clear z2
  obtain ⟨Q1, d1, w3, Q2, d2, w4, Ks, run1, run2, blt, hb4⟩ := more_made c k (HA.out.2.2.2.below Z.out) Z.out.size hs1
  have RUN1 := Lib.hid run1
  have RUN2 := Lib.hid run2
  have BLT := Lib.hid blt
  replace Z := Lib.hid (Z.out.trans (hb4.mono Z.out.size))
  clear run1 run2 blt hb4
  go_wp2_with (first | (at_builtin; (with_reducible refine wpList_append_run RUN1.out ?_ ?_ ?_ ?_); exact ⟨_, _, rfl, rfl, rfl⟩; rfl; rfl) | (at_builtin; (with_reducible refine wpList_append_run RUN2.out ?_ ?_ ?_ ?_); exact ⟨_, _, rfl, rfl, rfl⟩; rfl; rfl))
  have C := may_any Q2 d2 w4.heap.size (more T k) w4 BLT.out.tk (Nat.le_refl _) SM.out
  rw [more_len, MM.out] at C
  refine C.mono ?_
  rintro _ w5 ⟨rfl, z5⟩
  replace Z := Lib.hid (Z.out.trans (z5.mono Z.out.size))
  replace BLT := Lib.hid (BLT.out.kept z5)
  clear z5 C RUN1 RUN2
  go_wp2
  go_ret
  exact ⟨rfl, Z.out⟩
set_option maxRecDepth 100000 in
set_option maxHeartbeats 2000000 in
theorem more_ilo (A : Option Addr) (c : Nat) (T : List Tsk) (k i : Int) (w : World) (ha : Came w A T.length T) (h : few T = true) (hm : may T = true) (h1 : T.length < 30) (h2 : 0 ≤ k) (h3 : k ≤ 20) (h4 : i < 0) : Tells 8 #[.slice A T.length c, .int .i64 k, .int .i64 i] w (.bool true) := by
  have SM := Lib.hid (sm_more (k := k) h)
  have MM := Lib.hid (may_more_yes hm h1 h2 h3)
  have RL := Lib.hid (rts_more hm MM.out)
  have hrl := rts_le T (few_sm h)
  have HA := Lib.hid ha
  have H := Lib.hid h
  have HS := Lib.hid (few_sm h)
  have hs1 := (few_sm h).1
  have HM := Lib.hid hm
  clear ha h hm
  go_enter Try.func8, Try.ntmps8
  go_wp2_with fail
  refine (awake_any _).mono ?_
  rintro _ w1 ⟨rfl, z1⟩
  have Z := Lib.hid z1
  clear z1
  go_wp2_with fail
  refine (Gives.of (few_any A c w.heap.size T w1 (HA.out.2.2.2.below Z.out) HA.out.2.1 HA.out.2.2.1) (v' := .bool true) (by rw [H.out])).mono ?_
  rintro _ _ ⟨rfl, rfl⟩
  go_wp2_with fail
  refine (Tells.of (may_any A c w.heap.size T _ (HA.out.2.2.2.below Z.out) Z.out.size HS.out) (v' := .bool true) (by rw [HM.out])).mono ?_
  rintro _ w2 ⟨rfl, z2⟩
  replace Z := Lib.hid (Z.out.trans (z2.mono Z.out.size))
  clear z2
  obtain ⟨Q1, d1, w3, Q2, d2, w4, Ks, run1, run2, blt, hb4⟩ := more_made c k (HA.out.2.2.2.below Z.out) Z.out.size hs1
  have RUN1 := Lib.hid run1
  have RUN2 := Lib.hid run2
  have BLT := Lib.hid blt
  replace Z := Lib.hid (Z.out.trans (hb4.mono Z.out.size))
  clear run1 run2 blt hb4
  go_wp2_with (first | (at_builtin; (with_reducible refine wpList_append_run RUN1.out ?_ ?_ ?_ ?_); exact ⟨_, _, rfl, rfl, rfl⟩; rfl; rfl) | (at_builtin; (with_reducible refine wpList_append_run RUN2.out ?_ ?_ ?_ ?_); exact ⟨_, _, rfl, rfl, rfl⟩; rfl; rfl))
  have C := may_any Q2 d2 w4.heap.size (more T k) w4 BLT.out.tk (Nat.le_refl _) SM.out
  rw [more_len, MM.out] at C
  refine C.mono ?_
  rintro _ w5 ⟨rfl, z5⟩
  replace Z := Lib.hid (Z.out.trans (z5.mono Z.out.size))
  replace BLT := Lib.hid (BLT.out.kept z5)
  clear z5 C RUN1 RUN2
  go_wp2_with fail
  have C := roots_any Q2 d2 w5.heap.size (more T k) w5 BLT.out.tk (Nat.le_refl _) SM.out
  rw [more_len] at C
  refine C.mono ?_
  rintro _ w6 ⟨R6, e6, rfl, _, z6⟩
  replace Z := Lib.hid (Z.out.trans (z6.mono Z.out.size))
  rw [RL.out]
  clear z6 C
  go_wp2_with fail
  refine (roots_any A c w.heap.size T _ (HA.out.2.2.2.below Z.out) Z.out.size HS.out).mono ?_
  rintro _ w7 ⟨R7, e7, rfl, _, z7⟩
  replace Z := Lib.hid (Z.out.trans (z7.mono Z.out.size))
  clear z7
  go_wp2
  go_ret
  exact ⟨rfl, Z.out⟩
set_option maxRecDepth 100000 in
set_option maxHeartbeats 2000000 in
theorem more_ihi (A : Option Addr) (c : Nat) (T : List Tsk) (k i : Int) (w : World) (ha : Came w A T.length T) (h : few T = true) (hm : may T = true) (h1 : T.length < 30) (h2 : 0 ≤ k) (h3 : k ≤ 20) (h4 : ¬ i < 0) (h5 : (T.length : Int) ≤ i) : Tells 8 #[.slice A T.length c, .int .i64 k, .int .i64 i] w (.bool true) := by
  have SM := Lib.hid (sm_more (k := k) h)
  have MM := Lib.hid (may_more_yes hm h1 h2 h3)
  have RL := Lib.hid (rts_more hm MM.out)
  have hrl := rts_le T (few_sm h)
  have HA := Lib.hid ha
  have H := Lib.hid h
  have HS := Lib.hid (few_sm h)
  have hs1 := (few_sm h).1
  have HM := Lib.hid hm
  clear ha h hm
  go_enter Try.func8, Try.ntmps8
  go_wp2_with fail
  refine (awake_any _).mono ?_
  rintro _ w1 ⟨rfl, z1⟩
  have Z := Lib.hid z1
  clear z1
  go_wp2_with fail
  refine (Gives.of (few_any A c w.heap.size T w1 (HA.out.2.2.2.below Z.out) HA.out.2.1 HA.out.2.2.1) (v' := .bool true) (by rw [H.out])).mono ?_
  rintro _ _ ⟨rfl, rfl⟩
  go_wp2_with fail
  refine (Tells.of (may_any A c w.heap.size T _ (HA.out.2.2.2.below Z.out) Z.out.size HS.out) (v' := .bool true) (by rw [HM.out])).mono ?_
  rintro _ w2 ⟨rfl, z2⟩
  replace Z := Lib.hid (Z.out.trans (z2.mono Z.out.size))
  clear z2
  obtain ⟨Q1, d1, w3, Q2, d2, w4, Ks, run1, run2, blt, hb4⟩ := more_made c k (HA.out.2.2.2.below Z.out) Z.out.size hs1
  have RUN1 := Lib.hid run1
  have RUN2 := Lib.hid run2
  have BLT := Lib.hid blt
  replace Z := Lib.hid (Z.out.trans (hb4.mono Z.out.size))
  clear run1 run2 blt hb4
  go_wp2_with (first | (at_builtin; (with_reducible refine wpList_append_run RUN1.out ?_ ?_ ?_ ?_); exact ⟨_, _, rfl, rfl, rfl⟩; rfl; rfl) | (at_builtin; (with_reducible refine wpList_append_run RUN2.out ?_ ?_ ?_ ?_); exact ⟨_, _, rfl, rfl, rfl⟩; rfl; rfl))
  have C := may_any Q2 d2 w4.heap.size (more T k) w4 BLT.out.tk (Nat.le_refl _) SM.out
  rw [more_len, MM.out] at C
  refine C.mono ?_
  rintro _ w5 ⟨rfl, z5⟩
  replace Z := Lib.hid (Z.out.trans (z5.mono Z.out.size))
  replace BLT := Lib.hid (BLT.out.kept z5)
  clear z5 C RUN1 RUN2
  go_wp2_with fail
  have C := roots_any Q2 d2 w5.heap.size (more T k) w5 BLT.out.tk (Nat.le_refl _) SM.out
  rw [more_len] at C
  refine C.mono ?_
  rintro _ w6 ⟨R6, e6, rfl, _, z6⟩
  replace Z := Lib.hid (Z.out.trans (z6.mono Z.out.size))
  rw [RL.out]
  clear z6 C
  go_wp2_with fail
  refine (roots_any A c w.heap.size T _ (HA.out.2.2.2.below Z.out) Z.out.size HS.out).mono ?_
  rintro _ w7 ⟨R7, e7, rfl, _, z7⟩
  replace Z := Lib.hid (Z.out.trans (z7.mono Z.out.size))
  clear z7
  go_wp2
  go_ret
  exact ⟨rfl, Z.out⟩
set_option maxRecDepth 100000 in
set_option maxHeartbeats 4000000 in
theorem more_main (A : Option Addr) (c : Nat) (T : List Tsk) (k : Int) (j : Nat) (w : World) (ha : Came w A T.length T) (h : few T = true) (hm : may T = true) (h1 : T.length < 30) (h2 : 0 ≤ k) (h3 : k ≤ 20) (hj : j < T.length) : Tells 8 #[.slice A T.length c, .int .i64 k, .int .i64 j] w (.bool true) := by
  have SM := Lib.hid (sm_more (k := k) h)
  have MM := Lib.hid (may_more_yes hm h1 h2 h3)
  have SK := Lib.hid (sm_kid (k := k) hj h)
  have MK := Lib.hid (may_kid hj hm MM.out)
  have RK := Lib.hid (rts_kid hj hm MM.out)
  have PK := Lib.hid (show par (kid T k j T[j]) T.length = j by rw [par_yes MK.out]; exact pa_kid_new hj (may_parts hm).2.2)
  have hrl := rts_le T (few_sm h)
  have hkl := (few_sm h).at hj
  have hj0 : decide ((j : Int) < 0) = false := decide_eq_false (by omega)
  have hj1 : decide (T.length ≤ j) = false := decide_eq_false (by omega)
  have HA := Lib.hid ha
  have H := Lib.hid h
  have HS := Lib.hid (few_sm h)
  have hs1 := (few_sm h).1
  have HM := Lib.hid hm
  clear ha h hm
  go_enter Try.func8, Try.ntmps8
  go_wp2_with fail
  refine (awake_any _).mono ?_
  rintro _ w1 ⟨rfl, z1⟩
  have Z := Lib.hid z1
  clear z1
  go_wp2_with fail
  refine (Gives.of (few_any A c w.heap.size T w1 (HA.out.2.2.2.below Z.out) HA.out.2.1 HA.out.2.2.1) (v' := .bool true) (by rw [H.out])).mono ?_
  rintro _ _ ⟨rfl, rfl⟩
  go_wp2_with fail
  refine (Tells.of (may_any A c w.heap.size T _ (HA.out.2.2.2.below Z.out) Z.out.size HS.out) (v' := .bool true) (by rw [HM.out])).mono ?_
  rintro _ w2 ⟨rfl, z2⟩
  replace Z := Lib.hid (Z.out.trans (z2.mono Z.out.size))
  clear z2
  obtain ⟨Q1, d1, w3, Q2, d2, w4, Ks, run1, run2, blt, hb4⟩ := more_made c k (HA.out.2.2.2.below Z.out) Z.out.size hs1
  have RUN1 := Lib.hid run1
  have RUN2 := Lib.hid run2
  have BLT := Lib.hid blt
  replace Z := Lib.hid (Z.out.trans (hb4.mono Z.out.size))
  clear run1 run2 blt hb4
  go_wp2_with (first | (at_builtin; (with_reducible refine wpList_append_run RUN1.out ?_ ?_ ?_ ?_); exact ⟨_, _, rfl, rfl, rfl⟩; rfl; rfl) | (at_builtin; (with_reducible refine wpList_append_run RUN2.out ?_ ?_ ?_ ?_); exact ⟨_, _, rfl, rfl, rfl⟩; rfl; rfl))
  have C := may_any Q2 d2 w4.heap.size (more T k) w4 BLT.out.tk (Nat.le_refl _) SM.out
  rw [more_len, MM.out] at C
  refine C.mono ?_
  rintro _ w5 ⟨rfl, z5⟩
  replace Z := Lib.hid (Z.out.trans (z5.mono Z.out.size))
  replace BLT := Lib.hid (BLT.out.kept z5)
  clear z5 C RUN1 RUN2
  have hl5 := BLT.out.2.1
  obtain ⟨Q3, d3, w6, run3, blt3, g3⟩ := app_tasks (Blt.nil w5 w5.heap.size) d2 BLT.out.src (BLT.out.2.2.2.kept (fun _ _ _ => rfl) (Nat.le_refl _) (fun _ _ _ h => by cases h)) hl5 (by omega) (Nat.le_refl _)
  simp only [Nat.zero_add, List.nil_append] at run3 blt3
  have b6 : Below w5.heap.size w5 w6 := (Below.refl _ _).grown g3 (Nat.le_refl _) (fun k e => by cases e)
  have hz5 := Z.out.size
  replace Z := Lib.hid (Z.out.trans (b6.mono Z.out.size))
  obtain ⟨tb, to, tK, tc, rfl, htl, t0, t1, tr⟩ := (HA.out.2.2.2.below Z.out).at hj
  obtain ⟨R1, e1, w7, run4, own4, y7⟩ := run_app (show Own w6 w6.heap.size none 0 0 [] from World.ownsRow_nil _ _ _ _) tc (tr.rd Z.out.size) rfl (by omega) (Nat.le_refl _)
  simp only [Nat.zero_add, List.nil_append] at run4 own4
  have y7b : Below w6.heap.size w6 (w7.alloc (.cells #[.int .i64 (T.length : Int)] 3)) := y7.alloc y7.size _
  obtain ⟨R2, e2, w8, run5, own5, y8⟩ := run_app (m := 1) (own4.alloc (.cells #[.int .i64 (T.length : Int)] 3)) 1 (new_rd w7 T.length) rfl (by omega) y7b.size
  have y9 := y7b.trans y8
  have blt8 := blt3.kept y9
  obtain ⟨g, rfl, hg1, hg2, hgc, hgf⟩ := blt8.at (by omega)
  have hxj : (more T k)[j]? = some T[j] := by unfold more; rw [List.getElem?_append_left hj, List.getElem?_eq_getElem hj]
  obtain ⟨kk, hkj⟩ : ∃ kk, Ks[j]? = some kk := ⟨_, List.getElem?_eq_getElem (by rw [blt8.1, more_len]; omega)⟩
  have hcell := hgc _ _ (flat_at _ _ j _ _ hxj hkj).2
  have hfro := hgf (j * 2 + 1)
  have hR2 : RdO w8.heap.size (some g) w8 R2 (T[j].2 ++ [(T.length : Int)]) := by
    intro hp
    obtain ⟨b, off, eb, hb1, hb2⟩ := own5.rd.rdB hp
    refine ⟨b, off, eb, hb1, ?_, hb2⟩
    have hbb := (World.ownsRow.lt own5 b (by rw [eb]; rfl)).1
    obtain ⟨_, eg, _, hg6, _⟩ := blt3.at (by omega)
    cases eg
    intro e
    injection e with e
    omega
  have blt9 := blt8.setKids hxj rfl (c := e2) hR2
  rw [List.length_append, List.length_cons, List.length_nil, Nat.zero_add] at blt9
  have z9 := (Z.out.trans (y9.mono Z.out.size)).setCell (p := ⟨g, j * 2 + 1, none⟩) (by show w.heap.size ≤ g; omega) (.slice R2 (T[j].2.length + 1) e2)
  have RUN3 := Lib.hid run3
  have RUN4 := Lib.hid run4
  have RUN5 := Lib.hid run5
  have BLT9 := Lib.hid blt9
  have Z9 := Lib.hid z9
  clear run3 run4 run5 blt3 blt8 blt9 z9 y7 y7b y8 y9 own4 own5 hgc hgf hR2 b6 tr g3 BLT hxj hkj
  go_wp2_with (first | (at_builtin; (with_reducible refine wpList_append_run RUN3.out ?_ ?_ ?_ ?_); exact ⟨_, _, rfl, rfl, rfl⟩; rfl; rfl) | (at_builtin; (with_reducible refine wpList_append_run RUN4.out ?_ ?_ ?_ ?_); exact ⟨_, _, rfl, rfl, rfl⟩; rfl; rfl) | (at_builtin; (with_reducible refine wpList_append_run RUN5.out ?_ ?_ ?_ ?_); exact ⟨_, _, rfl, rfl, rfl⟩; rfl; rfl))
  have C := may_any (some ⟨g, 0, none⟩) d3 _ (kid T k j T[j]) _ BLT9.out.tk (Nat.le_refl _) SK.out
  rw [kid_len, MK.out] at C
  refine C.mono ?_
  rintro _ w10 ⟨rfl, z10⟩
  replace Z9 := Lib.hid (Z9.out.trans (z10.mono Z9.out.size))
  have BL := Lib.hid (BLT9.out.kept z10)
  clear z10 C BLT9 RUN3 RUN4 RUN5
  go_wp2_with fail
  have C := roots_any (some ⟨g, 0, none⟩) d3 _ (kid T k j T[j]) _ BL.out.tk (Nat.le_refl _) SK.out
  rw [kid_len] at C
  refine C.mono ?_
  rintro _ w11 ⟨R6, e6, rfl, _, z11⟩
  replace Z9 := Lib.hid (Z9.out.trans (z11.mono Z9.out.size))
  replace BL := Lib.hid (BL.out.kept z11)
  rw [RK.out]
  clear z11 C
  go_wp2_with fail
  refine (roots_any (some ⟨tb, to, none⟩) c w.heap.size T _ (HA.out.2.2.2.below Z9.out) Z9.out.size HS.out).mono ?_
  rintro _ w12 ⟨R7, e7, rfl, _, z12⟩
  replace Z9 := Lib.hid (Z9.out.trans (z12.mono Z9.out.size))
  replace BL := Lib.hid (BL.out.kept z12)
  clear z12
  go_wp2_with fail
  have C := parent_any (some ⟨g, 0, none⟩) d3 _ (kid T k j T[j]) T.length _ BL.out.tk (Nat.le_refl _) SK.out
  rw [kid_len, PK.out] at C
  refine C.mono ?_
  rintro _ w13 ⟨rfl, z13⟩
  replace Z9 := Lib.hid (Z9.out.trans (z13.mono Z9.out.size))
  clear z13 C
  go_wp2
  go_ret
  exact ⟨rfl, Z9.out⟩
theorem forestMore_walk (A : Option Addr) (n c : Nat) (T : List Tsk) (k i : Int) (w : World) (ha : Came w A n T) : Tells 8 #[.slice A n c, .int .i64 k, .int .i64 i] w (.bool true) := by
  obtain rfl := ha.1
  cases h : few T
  · exact more_few A c T k i w ha h
  · cases hm : may T
    · exact more_may A c T k i w ha h hm
    · by_cases h1 : T.length < 30
      · by_cases h2 : k < 0
        · exact more_lo A c T k i w ha h hm h1 h2
        · by_cases h3 : k ≤ 20
          · by_cases h4 : i < 0
            · exact more_ilo A c T k i w ha h hm h1 (by omega) h3 h4
            · by_cases h5 : (T.length : Int) ≤ i
              · exact more_ihi A c T k i w ha h hm h1 (by omega) h3 h4 h5
              · obtain ⟨j, rfl⟩ : ∃ j : Nat, i = j := ⟨i.toNat, by omega⟩
                exact more_main A c T k j w ha h hm h1 (by omega) h3 (by omega)
          · exact more_hi A c T k i w ha h hm h1 (by omega) (by omega)
      · exact more_30 A c T k i w ha h hm h1
end Go.Proofs.Ytajbnpjdhmeeiaa
