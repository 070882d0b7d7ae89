/- The walk of DequeRoom. -/
import Derived.Test.YtpeaahihjeplmaaOrderW
import Derived.Test.YtpeaahihjeplmaaDeI
namespace Go.Proofs.Ytpeaahihjeplmaa
open Go.RowKit Go.Deep Go.Shelf
theorem OwI.alloc {w : World} {base : Nat} {A : Option Addr} {n c : Nat} {l : List Int} (h : OwI w base A n c l) (o : Obj) : OwI (w.alloc o) base A n c l := World.ownsRow.alloc h _
theorem plO_room {D : Int} {pops : List Bool} (hp : pops.length ≤ 60) (who : List Int) : ((plO D 0 (cs pops) who).a.length = 0 ∧ (plO D 0 (cs pops) who).over.length = 0) ∨ ((plO D 0 (cs pops) who).a.length = 1 ∧ 1 ≤ D ∧ D ≤ 16 ∧ ∃ l, seqOk D [] (plO D 0 (cs pops) who).over = some l) := by
  unfold plO
  cases hk : plK D 0
  · rw [if_neg (by simp)]; exact .inl ⟨rfl, rfl⟩
  · rw [if_pos rfl]
    unfold plK at hk
    simp only [Bool.and_eq_true, decide_eq_true_eq] at hk
    obtain ⟨h1, _⟩ := play_hand (th := 0) hk.1 hp who
    exact .inr ⟨by rw [h1]; rfl, (may_lim hk.1).2.1.1, (may_lim hk.1).2.1.2, play_room hk.1 hp who⟩
theorem seq_cons {D : Int} {l k : List Int} {g : Fr} {r : List Fr} (h : seqOk D l (g :: r) = some k) : (on l D (fbg g.op 0 (if g.op = 0 then g.val else 0))).2.res = g.res ∧ (on l D (fbg g.op 0 (if g.op = 0 then g.val else 0))).2.val = g.val ∧ ((on l D (fbg g.op 0 (if g.op = 0 then g.val else 0))).1.length : Int) ≤ D ∧ seqOk D (on l D (fbg g.op 0 (if g.op = 0 then g.val else 0))).1 r = some k := by
  simp only [seqOk] at h
  generalize (if g.op = 0 then g.val else 0) = z at h ⊢
  by_cases hc : (on l D (fbg g.op 0 z)).2.res = g.res ∧ (on l D (fbg g.op 0 z)).2.val = g.val ∧ ((on l D (fbg g.op 0 z)).1.length : Int) ≤ D
  · rw [if_pos hc] at h
    exact ⟨hc.1, hc.2.1, hc.2.2, h⟩
  · rw [if_neg hc] at h
    cases h
theorem Bf.val {w : World} {g : Nat} {o p v : Int} (h : Bf w g (fbg o p v)) (u : Int) : Bf (w.setCell ⟨g, 3, none⟩ (.int .u64 u)) g (fbg o p u) := by
  unfold Bf fbg at h ⊢
  simp [World.setCell, Array.getElem?_modify, h]
set_option maxRecDepth 100000 in
set_option maxHeartbeats 4000000 in
theorem room_tells (D kk : Int) (A : Option Addr) (n c : Nat) (pops : List Bool) (w : World) (hP : Rb w A pops) (hn : pops.length = n) :
    Tells 6 #[.int .i64 D, .slice A n c, .int .i64 kk] w (.bool true) := by
  have HP := Lib.hid hP
  have HN := Lib.hid hn
  clear hP hn
  go_enter Try.func6, Try.ntmps6
  go_wp2_with fail
  refine (awake_any _).mono ?_
  rintro _ w1 ⟨rfl, z1⟩
  have Z1 := Lib.hid z1
  clear z1
  by_cases h60 : n ≤ 60
  · have d1 : decide ((n : Int) > 60) = false := decide_eq_false (by omega)
    by_cases hk0 : kk < 0
    · have d3 : decide (kk < 0) = true := decide_eq_true hk0
      go_wp2
      go_ret
      exact ⟨rfl, Z1.out⟩
    · by_cases hk1 : 500 < kk
      · have d3 : decide (kk < 0) = false := decide_eq_false hk0
        have d4 : decide (kk > 500) = true := decide_eq_true hk1
        go_wp2
        go_ret
        exact ⟨rfl, Z1.out⟩
      · obtain ⟨k, rfl⟩ := Int.eq_ofNat_of_zero_le (show 0 ≤ kk by omega)
        have hk : k ≤ 500 := by omega
        have d3 : decide ((k : Int) < 0) = false := decide_eq_false hk0
        have d4 : decide ((k : Int) > 500) = false := decide_eq_false hk1
        clear hk0 hk1
        go_wp2
        go_loopw [8, 9] (fun s x wr => ∃ (j : Nat) (Q : Option Addr) (d : Nat), s = .slice Q j d ∧ x = .int .i64 j ∧ j ≤ k ∧ Hid (OwI wr w.heap.size Q j d (List.replicate j 0)) ∧ Hid (Below w.heap.size w wr)) (fun _ x _ => k - (intOf x).toNat)
        case atStart => exact ⟨0, none, 0, rfl, rfl, Nat.zero_le _, Lib.hid (OwI.nil _ _), Z1⟩
        case round =>
          obtain ⟨j, Q, d, rfl, rfl, hj, HO, HZ⟩ := hrel
          by_cases hlt : j < k
          · obtain ⟨Q', d', w', hrun, hown, hbel⟩ := app_ints (HO.out.alloc (.cells #[.int .i64 0] 3)) 1 (ri_new wr [0]) (m := 1) rfl (by omega) (Nat.le_trans HZ.out.size (box_below wr _).size)
            rw [← List.replicate_succ'] at hown
            have RUN := Lib.hid hrun
            have HO' := Lib.hid hown
            have HZ' := Lib.hid ((HZ.out.trans ((box_below wr (.cells #[.int .i64 0] 3)).mono HZ.out.size)).trans hbel)
            clear hrun hown hbel HO HZ
            go_wp2_with (at_builtin; (with_reducible refine wpList_append_fr RUN.out ?_ ?_ ?_ ?_); exact ⟨_, _, rfl, rfl, rfl⟩; rfl; rfl)
            go_roundw
            case rel => exact ⟨j + 1, Q', d', rfl, by go_num, by omega, HO', HZ'⟩
            case measure => simp [intOf]; omega
          · have hje : j = k := by omega
            subst hje
            have HW := Lib.hid HO.out.ri
            clear HO
            have hpl : pops.length ≤ 60 := by rw [HN.out]; exact h60
            have HPL := Lib.hid hpl
            clear hpl
            go_wp2_with fail
            refine (lcalls_any A n c pops wr (HP.out.below HZ.out) HN.out h60).mono ?_
            rintro _ w2 ⟨Q2, d2, rfl, hq, z2⟩
            have HQ := Lib.hid hq.pr
            have HCAP := Lib.hid (ow_cap hq)
            have Z2 := Lib.hid (HZ.out.trans (z2.mono HZ.out.size))
            replace HW := Lib.hid (HW.out.below z2)
            clear hq z2 HZ
            go_wp2_with fail
            refine (play_any D 0 Q2 Q d2 d n j (cs pops) (List.replicate j 0) w2 HQ.out HW.out HCAP.out (by rw [cs_len]; exact HN.out) (by simp) (by omega) (cs_UF pops HPL.out)).mono ?_
            obtain o3 := plO_room (D := D) HPL.out (List.replicate j 0)
            have o4 := (plO_U (D := D) (th := 0) (cs_UF pops HPL.out) (List.replicate j 0)).2.2.2
            rw [List.length_replicate] at o4
            generalize plO D 0 (cs pops) (List.replicate j 0) = s at o3 o4 ⊢
            obtain ⟨na, hna⟩ : ∃ na, s.a.length = na := ⟨_, rfl⟩
            obtain ⟨no, hno⟩ : ∃ no, s.over.length = no := ⟨_, rfl⟩
            rintro _ w3 ⟨Am, cm, Ao, co, Aa, ca, rfl, _, ro, _, _, z3⟩
            have RO := Lib.hid ro
            have Z3 := Lib.hid (Z2.out.trans (z3.mono Z2.out.size))
            have HNO := Lib.hid hno
            have hno5 : no ≤ 500 := by omega
            rw [hna, hno] at o3
            simp only [hna, hno]
            clear ro z3 o4 hna hno Z2 HQ HCAP HW
            rcases o3 with ⟨e1, e2⟩ | ⟨e1, e2, e3, l, hl⟩
            · subst e1 e2
              go_wp2
              go_ret
              exact ⟨rfl, Z3.out⟩
            · subst e1
              have HL := Lib.hid hl
              clear hl
              go_wp2
              go_loopw [13, 14, 15, 16, 17] (fun s' x _ _ _ wr => ∃ (i : Nat) (Q : Option Addr) (d nl : Nat) (li : List Int), s' = .slice Q nl d ∧ x = .int .i64 i ∧ i ≤ no ∧ Hid (li.length = nl) ∧ nl ≤ d ∧ nl ≤ 16 ∧ Hid (Rd wr Q li) ∧ Hid (seqOk D li (s.over.drop i) = some l) ∧ Hid (Below w3.heap.size w3 wr)) (fun _ x _ _ _ _ => no - (intOf x).toNat)
              case atStart => exact ⟨0, none, 0, 0, [], rfl, rfl, Nat.zero_le _, Lib.hid rfl, Nat.le_refl _, by omega, Lib.hid (Rd.nil _ _), HL, Lib.hid (Below.refl _ _)⟩
              case round =>
                obtain ⟨i, R, dR, nl, li, rfl, rfl, hi, HLI, hld, hl16, HR, HS, HZ⟩ := hrel
                by_cases hlt : i < no
                · have hL : i < s.over.length := by rw [HNO.out]; exact hlt
                  have hs := HS.out
                  rw [List.drop_eq_getElem_cons hL] at hs
                  obtain ⟨q1, q2, q3, q4⟩ := seq_cons hs
                  obtain ⟨b, off, rfl, hbl, hc7⟩ := (RO.out.later HZ.out).at hL
                  have HC7 := Lib.hid hc7
                  obtain ⟨f, hf⟩ : ∃ f, s.over[i] = f := ⟨_, rfl⟩
                  rw [hf] at hc7 q1 q2 q3 q4
                  obtain ⟨o, p, q, vv, xx, y, r⟩ := f
                  rw [hf] at HC7
                  obtain ⟨a0, a1, a2, a3, a4, a5, a6⟩ := hc7
                  simp only at a0 a1 a2 a3 a4 a5 a6 q1 q2 q3 q4
                  have HBL := Lib.hid hbl
                  clear hf hs HS
                  by_cases h0 : o = 0
                  · have g1 : (o == 0) = true := by simp [h0]
                    rw [if_pos h0] at q1 q2 q3 q4
                    obtain ⟨⟨l', f'⟩, e1⟩ : ∃ s, on li D (fbg o 0 vv) = s := ⟨_, rfl⟩
                    rw [e1] at q1 q2 q3 q4
                    have Q4 := Lib.hid q4
                    have E1 := Lib.hid e1
                    simp only at q1 q2 q3
                    clear q4 e1 h0
                    go_wp2_with fail
                    refine (begin_any o 0 0 _).mono ?_
                    rintro _ w4 ⟨rfl, z⟩
                    replace HZ := Lib.hid (HZ.out.trans (z.mono HZ.out.size))
                    replace HR := Lib.hid (HR.out.below z)
                    replace HC7 := Lib.hid (HC7.out.same (z.block _ HBL.out))
                    replace HBL := Lib.hid (Nat.lt_of_lt_of_le HBL.out z.size)
                    clear z a0 a1 a2 a3 a4 a5 a6
                    go_upto_region 17 with (fail)
                    have bf := Bf.new w4 (fbg o 0 0)
                    have z := box_below w4 (.cells #[.int .i64 (fbg o 0 0).op, .int .i64 (fbg o 0 0).pc, .int .i64 (fbg o 0 0).who, .int .u64 (fbg o 0 0).val, .int .u64 (fbg o 0 0).x, .int .u64 (fbg o 0 0).y, .int .i64 (fbg o 0 0).res] 28)
                    generalize w4.alloc (.cells #[.int .i64 (fbg o 0 0).op, .int .i64 (fbg o 0 0).pc, .int .i64 (fbg o 0 0).who, .int .u64 (fbg o 0 0).val, .int .u64 (fbg o 0 0).x, .int .u64 (fbg o 0 0).y, .int .i64 (fbg o 0 0).res] 28) = w5 at bf z ⊢
                    have c7 := HC7.out.same (z.block _ HBL.out)
                    obtain ⟨a0, a1, a2, a3, a4, a5, a6⟩ := c7
                    obtain ⟨b0, b1, b2, b3, b4, b5, b6⟩ := bf.cells
                    have bz := bf.free 3
                    simp only at a0 a3
                    clear a1 a2 a4 a5 a6 b0 b1 b2 b4 b5 b6
                    go_upto_region 19 with (fail)
                    have bf2 := bf.val vv
                    have z2 := z.setCell (p := ⟨w4.heap.size, 3, none⟩) (Nat.le_refl _) (.int .u64 vv)
                    generalize w5.setCell ⟨w4.heap.size, 3, none⟩ (.int .u64 vv) = w6 at bf2 z2 ⊢
                    replace HZ := Lib.hid (HZ.out.trans (z2.mono HZ.out.size))
                    replace HR := Lib.hid (HR.out.below z2)
                    replace HC7 := Lib.hid (HC7.out.same (z2.block _ HBL.out))
                    replace HBL := Lib.hid (Nat.lt_of_lt_of_le HBL.out z2.size)
                    clear z z2 bf bz a0 a3 b3
                    obtain ⟨b0, b1, b2, b3, b4, b5, b6⟩ := bf2.cells
                    have hlt6 := bf2.lt
                    have hld2 := hld
                    simp only [fbg] at b0 b1 b2 b3 b4 b5 b6
                    go_wp2_with fail
                    refine (once_at l' f' E1.out HR.out HLI.out hld (by omega)).mono ?_
                    rintro _ w7 ⟨A2, c2, rfl, hc2, n2, z7⟩
                    clear b0 b1 b2 b3 b4 b5 b6 bf2 hlt6 HLI
                    replace HZ := Lib.hid (HZ.out.trans (z7.mono HZ.out.size))
                    have HR2 := Lib.hid n2.rd
                    replace HC7 := Lib.hid (HC7.out.same (z7.block _ HBL.out))
                    replace HBL := Lib.hid (Nat.lt_of_lt_of_le HBL.out z7.size)
                    clear HR n2 z7
                    obtain ⟨nl2, hnl2⟩ : ∃ nl2, l'.length = nl2 := ⟨_, rfl⟩
                    rw [hnl2] at q3 hc2 ⊢
                    have HLI := Lib.hid hnl2
                    clear hnl2 E1
                    obtain ⟨o', p', k', v', x', y', r'⟩ := f'
                    simp only at q1 q2
                    subst q1 q2
                    go_upto_region 20 with (fail)
                    have bf3 := Bf.new w7 ⟨o', p', k', v', x', y', r'⟩
                    have z8 := box_below w7 (.cells #[.int .i64 o', .int .i64 p', .int .i64 k', .int .u64 v', .int .u64 x', .int .u64 y', .int .i64 r'] 28)
                    simp only at bf3
                    generalize w7.alloc (.cells #[.int .i64 o', .int .i64 p', .int .i64 k', .int .u64 v', .int .u64 x', .int .u64 y', .int .i64 r'] 28) = w8 at bf3 z8 ⊢
                    replace HZ := Lib.hid (HZ.out.trans (z8.mono HZ.out.size))
                    replace HR2 := Lib.hid (HR2.out.below z8)
                    have c7 := HC7.out.same (z8.block _ HBL.out)
                    clear z8
                    obtain ⟨a0, a1, a2, a3, a4, a5, a6⟩ := c7
                    obtain ⟨b0, b1, b2, b3, b4, b5, b6⟩ := bf3.cells
                    simp only at a3 a6 b3 b6
                    have x1 : (r' != r') = false := by simp
                    have x2 : (v' != v') = false := by simp
                    have x3 : decide ((nl2 : Int) > D) = false := decide_eq_false (by omega)
                    go_wp2_with fail
                    go_quiet (fail)
                    go_wp2
                    go_roundw
                    case rel => exact ⟨i + 1, A2, c2, nl2, l', rfl, by go_num, by omega, HLI, hc2, by omega, HR2, Q4, Lib.hid (HZ.out.trans ((below_drewN w8 nq).mono HZ.out.size))⟩
                    case measure => simp [intOf]; omega
                  · have g1 : (o == 0) = false := by simp [h0]
                    rw [if_neg h0] at q1 q2 q3 q4
                    obtain ⟨⟨l', f'⟩, e1⟩ : ∃ s, on li D (fbg o 0 0) = s := ⟨_, rfl⟩
                    rw [e1] at q1 q2 q3 q4
                    have Q4 := Lib.hid q4
                    have E1 := Lib.hid e1
                    simp only at q1 q2 q3
                    clear q4 e1 h0
                    go_wp2_with fail
                    refine (begin_any o 0 0 _).mono ?_
                    rintro _ w4 ⟨rfl, z⟩
                    replace HZ := Lib.hid (HZ.out.trans (z.mono HZ.out.size))
                    replace HR := Lib.hid (HR.out.below z)
                    replace HC7 := Lib.hid (HC7.out.same (z.block _ HBL.out))
                    replace HBL := Lib.hid (Nat.lt_of_lt_of_le HBL.out z.size)
                    clear z a0 a1 a2 a3 a4 a5 a6
                    go_upto_region 17 with (fail)
                    have bf := Bf.new w4 (fbg o 0 0)
                    have z := box_below w4 (.cells #[.int .i64 (fbg o 0 0).op, .int .i64 (fbg o 0 0).pc, .int .i64 (fbg o 0 0).who, .int .u64 (fbg o 0 0).val, .int .u64 (fbg o 0 0).x, .int .u64 (fbg o 0 0).y, .int .i64 (fbg o 0 0).res] 28)
                    generalize w4.alloc (.cells #[.int .i64 (fbg o 0 0).op, .int .i64 (fbg o 0 0).pc, .int .i64 (fbg o 0 0).who, .int .u64 (fbg o 0 0).val, .int .u64 (fbg o 0 0).x, .int .u64 (fbg o 0 0).y, .int .i64 (fbg o 0 0).res] 28) = w5 at bf z ⊢
                    have c7 := HC7.out.same (z.block _ HBL.out)
                    obtain ⟨a0, a1, a2, a3, a4, a5, a6⟩ := c7
                    obtain ⟨b0, b1, b2, b3, b4, b5, b6⟩ := bf.cells
                    have bz := bf.free 3
                    simp only at a0 a3
                    clear a1 a2 a4 a5 a6 b0 b1 b2 b4 b5 b6
                    go_upto_region 19 with (fail)
                    replace HZ := Lib.hid (HZ.out.trans (z.mono HZ.out.size))
                    replace HR := Lib.hid (HR.out.below z)
                    replace HC7 := Lib.hid (HC7.out.same (z.block _ HBL.out))
                    replace HBL := Lib.hid (Nat.lt_of_lt_of_le HBL.out z.size)
                    clear z bz a0 a3 b3
                    obtain ⟨b0, b1, b2, b3, b4, b5, b6⟩ := bf.cells
                    have hlt6 := bf.lt
                    have hld2 := hld
                    simp only [fbg] at b0 b1 b2 b3 b4 b5 b6
                    go_wp2_with fail
                    refine (once_at l' f' E1.out HR.out HLI.out hld (by omega)).mono ?_
                    rintro _ w7 ⟨A2, c2, rfl, hc2, n2, z7⟩
                    clear b0 b1 b2 b3 b4 b5 b6 bf hlt6 HLI
                    replace HZ := Lib.hid (HZ.out.trans (z7.mono HZ.out.size))
                    have HR2 := Lib.hid n2.rd
                    replace HC7 := Lib.hid (HC7.out.same (z7.block _ HBL.out))
                    replace HBL := Lib.hid (Nat.lt_of_lt_of_le HBL.out z7.size)
                    clear HR n2 z7
                    obtain ⟨nl2, hnl2⟩ : ∃ nl2, l'.length = nl2 := ⟨_, rfl⟩
                    rw [hnl2] at q3 hc2 ⊢
                    have HLI := Lib.hid hnl2
                    clear hnl2 E1
                    obtain ⟨o', p', k', v', x', y', r'⟩ := f'
                    simp only at q1 q2
                    subst q1 q2
                    go_upto_region 20 with (fail)
                    have bf3 := Bf.new w7 ⟨o', p', k', v', x', y', r'⟩
                    have z8 := box_below w7 (.cells #[.int .i64 o', .int .i64 p', .int .i64 k', .int .u64 v', .int .u64 x', .int .u64 y', .int .i64 r'] 28)
                    simp only at bf3
                    generalize w7.alloc (.cells #[.int .i64 o', .int .i64 p', .int .i64 k', .int .u64 v', .int .u64 x', .int .u64 y', .int .i64 r'] 28) = w8 at bf3 z8 ⊢
                    replace HZ := Lib.hid (HZ.out.trans (z8.mono HZ.out.size))
                    replace HR2 := Lib.hid (HR2.out.below z8)
                    have c7 := HC7.out.same (z8.block _ HBL.out)
                    clear z8
                    obtain ⟨a0, a1, a2, a3, a4, a5, a6⟩ := c7
                    obtain ⟨b0, b1, b2, b3, b4, b5, b6⟩ := bf3.cells
                    simp only at a3 a6 b3 b6
                    have x1 : (r' != r') = false := by simp
                    have x2 : (v' != v') = false := by simp
                    have x3 : decide ((nl2 : Int) > D) = false := decide_eq_false (by omega)
                    go_wp2_with fail
                    go_quiet (fail)
                    go_wp2
                    go_roundw
                    case rel => exact ⟨i + 1, A2, c2, nl2, l', rfl, by go_num, by omega, HLI, hc2, by omega, HR2, Q4, Lib.hid (HZ.out.trans ((below_drewN w8 nq).mono HZ.out.size))⟩
                    case measure => simp [intOf]; omega
                · go_wp2
                  go_ret
                  exact ⟨rfl, Z3.out.trans (HZ.out.mono Z3.out.size)⟩
  · have d1 : decide ((n : Int) > 60) = true := decide_eq_true (by omega)
    go_wp2
    go_ret
    exact ⟨rfl, Z1.out⟩
end Go.Proofs.Ytpeaahihjeplmaa
