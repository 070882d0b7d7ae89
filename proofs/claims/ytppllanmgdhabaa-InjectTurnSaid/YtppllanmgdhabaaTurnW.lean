/- The walk of InjectTurn. -/
import Derived.Test.YtppllanmgdhabaaIkV
import Derived.Test.YtppllanmgdhabaaIkH
import Derived.Test.YtppllanmgdhabaaIjX
import Derived.Test.YtppllanmgdhabaaFrOn
namespace Go.Proofs.Ytppllanmgdhabaa
open Go.RowKit Go.Deep Go.Shelf
theorem OwI.alloc {w : World} {base : Nat} {A : Option Addr} {n c : Nat} {l : List Int} (h : OwI w base A n c l) (o : Obj) : OwI (w.alloc o) base A n c l := World.ownsRow.alloc h _
theorem rg_one {w : World} {A : Option Addr} {l : List Bool} (h : Rb w A l) {n : Nat} (hn : l.length = n) (c : Nat) : Rg (w.alloc (.cells #[.slice A n c] 45)) (some ⟨w.heap.size, 0, none⟩) [l] := fun _ => by
  refine ⟨_, rfl, by simp, fun j v hv => ?_⟩
  cases j with
  | zero =>
    simp at hv; subst hv hn
    exact ⟨A, c, (Boxed.new w 45 (.slice A _ c)).cell, h.below (box_below w _)⟩
  | succ j => simp at hv
theorem on_len (l : List Int) (r : Int) (f : Fr) : (on l r f).1.length ≤ l.length + 1 := by
  by_cases h : f.res ≠ 0 ∨ f.op < 0 ∨ 4 < f.op
  · rw [on_leave h]; simp
  · obtain ⟨l', u, t, e, _, h2⟩ := on_known (l := l) (r := r) (f := f) (by omega) (by omega) (by omega)
    rw [e]; exact h2
theorem seqI_cons {J : Int} {l k : List Int} {g : Fr} {r : List Fr} (h : seqI J l (g :: r) = some k) : (on l J (fbg g.op 0 (if g.op = 3 then g.val else 0))).2.res = g.res ∧ (on l J (fbg g.op 0 (if g.op = 3 then g.val else 0))).2.val = g.val ∧ seqI J (on l J (fbg g.op 0 (if g.op = 3 then g.val else 0))).1 r = some k := by
  simp only [seqI] at h
  generalize (if g.op = 3 then g.val else 0) = z at h ⊢
  by_cases hc : (on l J (fbg g.op 0 z)).2.res = g.res ∧ (on l J (fbg g.op 0 z)).2.val = g.val
  · rw [if_pos hc] at h
    exact ⟨hc.1, hc.2, h⟩
  · rw [if_neg hc] at h
    cases h
theorem Bf.val {w : World} {g : Nat} {o p v : Int} (h : Bf w g (fbg o p v)) (u : Int) : Bf (w.setCell ⟨g, 3, none⟩ (.int .u64 u)) g (fbg o p u) := by
  unfold Bf fbg at h ⊢
  simp [World.setCell, Array.getElem?_modify, h]
theorem plI_turn {J : Int} {outs : List Bool} (h30 : outs.length ≤ 30) : ((plI J (csI [outs]) (List.replicate (9 * outs.length) 0)).2.1.length = 0 ∧ (plI J (csI [outs]) (List.replicate (9 * outs.length) 0)).2.2.length = 0) ∨
    ((plI J (csI [outs]) (List.replicate (9 * outs.length) 0)).2.1.length = 1 ∧ (plI J (csI [outs]) (List.replicate (9 * outs.length) 0)).2.2.length = outs.length ∧ ∃ l', seqI J [] (plI J (csI [outs]) (List.replicate (9 * outs.length) 0)).2.2 = some l') := by
  unfold plI
  cases hm : may 1 1 J 0
  · rw [if_neg (by simp)]; exact .inl ⟨rfl, rfl⟩
  · rw [if_pos ⟨rfl, by rw [csI_len]; simp⟩]
    obtain ⟨h1, h2⟩ := turn_I hm h30
    exact .inr ⟨by simp only; rw [playI_al, csI_len]; rfl, h1, h2⟩
set_option maxRecDepth 100000 in
set_option maxHeartbeats 8000000 in
theorem turn_tells (J : Int) (A : Option Addr) (n c : Nat) (outs : List Bool) (w : World) (hP : Rb w A outs) (hn : outs.length = n) :
    Tells 8 #[.int .i64 J, .slice A n c] w (.bool true) := by
  have HP := Lib.hid hP
  have HN := Lib.hid hn
  clear hP hn
  go_enter Try.func8, Try.ntmps8
  go_wp2_with fail
  refine (awake_any _).mono ?_
  rintro _ w1 ⟨rfl, z1⟩
  have Z1 := Lib.hid z1
  clear z1
  by_cases h30 : n ≤ 30
  · have d_h30 : decide ((n : Int) > 30) = false := decide_eq_false (by omega)
    have w9 : IntKind.i64.wrap (9 * (n : Int)) = 9 * (n : Int) := by rw [IntKind.wrap_i64]; omega
    go_wp2
    go_loopw [6, 7] (fun s x wr => ∃ (j : Nat) (Q : Option Addr) (d : Nat), s = .slice Q j d ∧ x = .int .i64 j ∧ j ≤ 9 * n ∧ Hid (OwI wr w.heap.size Q j d (List.replicate j 0)) ∧ Hid (Below w.heap.size w wr)) (fun _ x _ => 9 * n - (intOf x).toNat)
    case atStart => exact ⟨0, none, 0, rfl, rfl, Nat.zero_le _, Lib.hid (OwI.nil _ _), Z1⟩
    case round =>
      obtain ⟨j, Q, d, rfl, rfl, hj, HO, HZ⟩ := hrel
      by_cases hlt : j < 9 * n
      · have dl : decide ((j : Int) < 9 * (n : Int)) = true := decide_eq_true (by omega)
        obtain ⟨Q', d', w', hrun, hown, hbel⟩ := app_ints (HO.out.alloc (.cells #[.int .i64 0] 3)) 1 (ri_new wr [0]) (m := 1) rfl (by omega) (Nat.le_trans HZ.out.size (box_below wr _).size)
        rw [← List.replicate_succ'] at hown
        have RUN := Lib.hid hrun
        have HO' := Lib.hid hown
        have HZ' := Lib.hid ((HZ.out.trans ((box_below wr (.cells #[.int .i64 0] 3)).mono HZ.out.size)).trans hbel)
        clear hrun hown hbel HO HZ
        go_wp2_with (at_builtin; (with_reducible refine wpList_append_fr RUN.out ?_ ?_ ?_ ?_); exact ⟨_, _, rfl, rfl, rfl⟩; rfl; rfl)
        go_roundw
        case rel => exact ⟨j + 1, Q', d', rfl, by go_num, by omega, HO', HZ'⟩
        case measure => simp [intOf]; omega
      · have hje : j = 9 * n := by omega
        have dl : decide ((j : Int) < 9 * (n : Int)) = false := decide_eq_false (by omega)
        have HWR := Lib.hid HO.out.ri
        have HJE := Lib.hid hje
        clear HO
        have hpl : outs.length ≤ 30 := by rw [HN.out]; exact h30
        have HPL := Lib.hid hpl
        have H3 : ∀ l ∈ [outs], l.length ≤ 30 := fun l hl => by rw [List.mem_singleton] at hl; rw [hl]; exact HPL.out
        have HH3 := Lib.hid H3
        have HRG := Lib.hid (rg_one (HP.out.below HZ.out) HN.out c)
        have HZ2 := Lib.hid (HZ.out.trans ((box_below wr (.cells #[.slice A n c] 45)).mono HZ.out.size))
        have HW2 := Lib.hid (HWR.out.below (box_below wr (.cells #[.slice A n c] 45)))
        clear hpl H3 HWR HZ hje
        go_upto_region 9 with (fail)
        go_wp2_with fail
        generalize wr.alloc (.cells #[.slice A n c] 45) = wb at HRG HZ2 HW2 ⊢
        refine (calls_any _ 1 1 [outs] wb HRG.out rfl (by omega) HH3.out).mono ?_
        rintro _ w3 ⟨R, e, vs, rfl, hv, hl, z3⟩
        have HV := Lib.hid hv
        have HL := Lib.hid hl
        have Z3 := Lib.hid (HZ2.out.trans (z3.mono HZ2.out.size))
        have HW3 := Lib.hid (HW2.out.below z3)
        clear hv hl z3 HZ2 HW2
        go_wp2_with fail
        refine (play_any J R Q 1 e j d vs (csI [outs]) (List.replicate j 0) w3 HV.out HL.out HW3.out rfl (by simp) (by omega) (csI_UF (by simp) HH3.out).1 (csI_UF (by simp) HH3.out).2).mono ?_
        have o3 := plI_turn (J := J) HPL.out
        rw [HN.out, ← HJE.out] at o3
        generalize plI J (csI [outs]) (List.replicate j 0) = s at o3 ⊢
        obtain ⟨sm, sa, so⟩ := s
        simp only at o3 ⊢
        obtain ⟨na, hna⟩ : ∃ na, sa.length = na := ⟨_, rfl⟩
        obtain ⟨no, hno⟩ : ∃ no, so.length = no := ⟨_, rfl⟩
        rintro _ w4 ⟨Am, cm, Ao, co, Aa, ca, rfl, _, ro, _, _, z4⟩
        have RO := Lib.hid ro
        have Z4 := Lib.hid (Z3.out.trans (z4.mono Z3.out.size))
        have HNO := Lib.hid hno
        rw [hna, hno] at o3
        simp only [hna, hno]
        clear ro z4 hna hno Z3 HV HL HW3
        rcases o3 with ⟨e1, e2⟩ | ⟨e1, e2, l, hl⟩
        · subst e1 e2
          go_wp2
          go_ret
          exact ⟨rfl, Z4.out⟩
        · subst e1 e2
          have HL := Lib.hid hl
          clear hl
          go_wp2
          go_loopw [11, 12, 13, 14, 15] (fun s' x _ _ _ wr => ∃ (i : Nat) (Q : Option Addr) (d nl : Nat) (li : List Int), s' = .slice Q nl d ∧ x = .int .i64 i ∧ i ≤ no ∧ Hid (li.length = nl) ∧ nl ≤ d ∧ nl ≤ i ∧ Hid (Rd wr Q li) ∧ Hid (seqI J li (so.drop i) = some l) ∧ Hid (Below w4.heap.size w4 wr)) (fun _ x _ _ _ _ => no - (intOf x).toNat)
          case atStart => exact ⟨0, none, 0, 0, [], rfl, rfl, Nat.zero_le _, Lib.hid rfl, Nat.le_refl _, by omega, Lib.hid (Rd.nil _ _), HL, Lib.hid (Below.refl _ _)⟩
          case round =>
            obtain ⟨i, R', dR, nl, li, rfl, rfl, hi, HLI, hld, hl16, HR, HS, HZ⟩ := hrel
            by_cases hlt : i < no
            · have hL : i < so.length := by rw [HNO.out]; exact hlt
              have hs := HS.out
              rw [List.drop_eq_getElem_cons hL] at hs
              obtain ⟨q1, q2, q4⟩ := seqI_cons hs
              obtain ⟨b, off, rfl, hbl, hc7⟩ := (RO.out.later HZ.out).at hL
              have HC7 := Lib.hid hc7
              obtain ⟨f, hf⟩ : ∃ f, so[i] = f := ⟨_, rfl⟩
              rw [hf] at hc7 q1 q2 q4
              obtain ⟨o, p, q, vv, xx, y, r⟩ := f
              rw [hf] at HC7
              obtain ⟨a0, a1, a2, a3, a4, a5, a6⟩ := hc7
              simp only at a0 a1 a2 a3 a4 a5 a6 q1 q2 q4
              have HBL := Lib.hid hbl
              clear hf hs HS
              by_cases h0 : o = 3
              · have g1 : (o == 3) = true := by simp [h0]
                rw [if_pos h0] at q1 q2 q4
                obtain ⟨⟨l', f'⟩, e1⟩ : ∃ s, on li J (fbg o 0 vv) = s := ⟨_, rfl⟩
                have hl1 := on_len li J (fbg o 0 vv)
                rw [e1] at q1 q2 q4 hl1
                have Q4 := Lib.hid q4
                have E1 := Lib.hid e1
                simp only at q1 q2 hl1
                clear q4 e1 h0
                go_wp2_with fail
                refine (begin_any o 0 0 _).mono ?_
                rintro _ w4 ⟨rfl, z⟩
                replace HZ := Lib.hid (HZ.out.trans (z.mono HZ.out.size))
                replace HR := Lib.hid (HR.out.below z)
                replace HC7 := Lib.hid (HC7.out.same (z.block _ HBL.out))
                replace HBL := Lib.hid (Nat.lt_of_lt_of_le HBL.out z.size)
                clear z a0 a1 a2 a3 a4 a5 a6
                go_upto_region 17 with (fail)
                have bf := Bf.new w4 (fbg o 0 0)
                have z := box_below w4 (.cells #[.int .i64 (fbg o 0 0).op, .int .i64 (fbg o 0 0).pc, .int .i64 (fbg o 0 0).who, .int .u64 (fbg o 0 0).val, .int .u64 (fbg o 0 0).x, .int .u64 (fbg o 0 0).y, .int .i64 (fbg o 0 0).res] 28)
                generalize w4.alloc (.cells #[.int .i64 (fbg o 0 0).op, .int .i64 (fbg o 0 0).pc, .int .i64 (fbg o 0 0).who, .int .u64 (fbg o 0 0).val, .int .u64 (fbg o 0 0).x, .int .u64 (fbg o 0 0).y, .int .i64 (fbg o 0 0).res] 28) = w5 at bf z ⊢
                have c7 := HC7.out.same (z.block _ HBL.out)
                obtain ⟨a0, a1, a2, a3, a4, a5, a6⟩ := c7
                obtain ⟨b0, b1, b2, b3, b4, b5, b6⟩ := bf.cells
                have bz := bf.free 3
                simp only at a0 a3
                clear a1 a2 a4 a5 a6 b0 b1 b2 b4 b5 b6
                go_upto_region 19 with (fail)
                have bf2 := bf.val vv
                have z2 := z.setCell (p := ⟨w4.heap.size, 3, none⟩) (Nat.le_refl _) (.int .u64 vv)
                generalize w5.setCell ⟨w4.heap.size, 3, none⟩ (.int .u64 vv) = w6 at bf2 z2 ⊢
                replace HZ := Lib.hid (HZ.out.trans (z2.mono HZ.out.size))
                replace HR := Lib.hid (HR.out.below z2)
                replace HC7 := Lib.hid (HC7.out.same (z2.block _ HBL.out))
                replace HBL := Lib.hid (Nat.lt_of_lt_of_le HBL.out z2.size)
                clear z z2 bf bz a0 a3 b3
                obtain ⟨b0, b1, b2, b3, b4, b5, b6⟩ := bf2.cells
                have hlt6 := bf2.lt
                have hld2 := hld
                simp only [fbg] at b0 b1 b2 b3 b4 b5 b6
                go_wp2_with fail
                refine (once_at l' f' E1.out HR.out HLI.out hld (by omega)).mono ?_
                rintro _ w7 ⟨A2, c2, rfl, hc2, n2, z7⟩
                clear b0 b1 b2 b3 b4 b5 b6 bf2 hlt6
                replace HZ := Lib.hid (HZ.out.trans (z7.mono HZ.out.size))
                have HR2 := Lib.hid n2.rd
                replace HC7 := Lib.hid (HC7.out.same (z7.block _ HBL.out))
                replace HBL := Lib.hid (Nat.lt_of_lt_of_le HBL.out z7.size)
                clear HR n2 z7
                rw [HLI.out] at hl1
                clear HLI
                obtain ⟨nl2, hnl2⟩ : ∃ nl2, l'.length = nl2 := ⟨_, rfl⟩
                rw [hnl2] at hc2 hl1 ⊢
                have HLI := Lib.hid hnl2
                clear hnl2 E1
                obtain ⟨o', p', k', v', x', y', r'⟩ := f'
                simp only at q1 q2
                subst q1 q2
                go_upto_region 20 with (fail)
                have bf3 := Bf.new w7 ⟨o', p', k', v', x', y', r'⟩
                have z8 := box_below w7 (.cells #[.int .i64 o', .int .i64 p', .int .i64 k', .int .u64 v', .int .u64 x', .int .u64 y', .int .i64 r'] 28)
                simp only at bf3
                generalize w7.alloc (.cells #[.int .i64 o', .int .i64 p', .int .i64 k', .int .u64 v', .int .u64 x', .int .u64 y', .int .i64 r'] 28) = w8 at bf3 z8 ⊢
                replace HZ := Lib.hid (HZ.out.trans (z8.mono HZ.out.size))
                replace HR2 := Lib.hid (HR2.out.below z8)
                have c7 := HC7.out.same (z8.block _ HBL.out)
                clear z8
                obtain ⟨a0, a1, a2, a3, a4, a5, a6⟩ := c7
                obtain ⟨b0, b1, b2, b3, b4, b5, b6⟩ := bf3.cells
                simp only at a3 a6 b3 b6
                have x1 : (r' != r') = false := by simp
                have x2 : (v' != v') = false := by simp
                go_wp2_with fail
                go_quiet (fail)
                go_wp2
                go_roundw
                case rel => exact ⟨i + 1, A2, c2, nl2, l', rfl, by go_num, by omega, HLI, hc2, by omega, HR2, Q4, Lib.hid (HZ.out.trans ((below_drewN w8 nq).mono HZ.out.size))⟩
                case measure => simp [intOf]; omega
              · have g1 : (o == 3) = false := by simp [h0]
                rw [if_neg h0] at q1 q2 q4
                obtain ⟨⟨l', f'⟩, e1⟩ : ∃ s, on li J (fbg o 0 0) = s := ⟨_, rfl⟩
                have hl1 := on_len li J (fbg o 0 0)
                rw [e1] at q1 q2 q4 hl1
                have Q4 := Lib.hid q4
                have E1 := Lib.hid e1
                simp only at q1 q2 hl1
                clear q4 e1 h0
                go_wp2_with fail
                refine (begin_any o 0 0 _).mono ?_
                rintro _ w4 ⟨rfl, z⟩
                replace HZ := Lib.hid (HZ.out.trans (z.mono HZ.out.size))
                replace HR := Lib.hid (HR.out.below z)
                replace HC7 := Lib.hid (HC7.out.same (z.block _ HBL.out))
                replace HBL := Lib.hid (Nat.lt_of_lt_of_le HBL.out z.size)
                clear z a0 a1 a2 a3 a4 a5 a6
                go_upto_region 17 with (fail)
                have bf := Bf.new w4 (fbg o 0 0)
                have z := box_below w4 (.cells #[.int .i64 (fbg o 0 0).op, .int .i64 (fbg o 0 0).pc, .int .i64 (fbg o 0 0).who, .int .u64 (fbg o 0 0).val, .int .u64 (fbg o 0 0).x, .int .u64 (fbg o 0 0).y, .int .i64 (fbg o 0 0).res] 28)
                generalize w4.alloc (.cells #[.int .i64 (fbg o 0 0).op, .int .i64 (fbg o 0 0).pc, .int .i64 (fbg o 0 0).who, .int .u64 (fbg o 0 0).val, .int .u64 (fbg o 0 0).x, .int .u64 (fbg o 0 0).y, .int .i64 (fbg o 0 0).res] 28) = w5 at bf z ⊢
                have c7 := HC7.out.same (z.block _ HBL.out)
                obtain ⟨a0, a1, a2, a3, a4, a5, a6⟩ := c7
                obtain ⟨b0, b1, b2, b3, b4, b5, b6⟩ := bf.cells
                have bz := bf.free 3
                simp only at a0 a3
                clear a1 a2 a4 a5 a6 b0 b1 b2 b4 b5 b6
                go_upto_region 19 with (fail)
                have bf2 := bf
                have z2 := z
                have hbf2 := bf2
                replace HZ := Lib.hid (HZ.out.trans (z2.mono HZ.out.size))
                replace HR := Lib.hid (HR.out.below z2)
                replace HC7 := Lib.hid (HC7.out.same (z2.block _ HBL.out))
                replace HBL := Lib.hid (Nat.lt_of_lt_of_le HBL.out z2.size)
                clear z z2 bf bz a0 a3 b3 hbf2
                obtain ⟨b0, b1, b2, b3, b4, b5, b6⟩ := bf2.cells
                have hlt6 := bf2.lt
                have hld2 := hld
                simp only [fbg] at b0 b1 b2 b3 b4 b5 b6
                go_wp2_with fail
                refine (once_at l' f' E1.out HR.out HLI.out hld (by omega)).mono ?_
                rintro _ w7 ⟨A2, c2, rfl, hc2, n2, z7⟩
                clear b0 b1 b2 b3 b4 b5 b6 bf2 hlt6
                replace HZ := Lib.hid (HZ.out.trans (z7.mono HZ.out.size))
                have HR2 := Lib.hid n2.rd
                replace HC7 := Lib.hid (HC7.out.same (z7.block _ HBL.out))
                replace HBL := Lib.hid (Nat.lt_of_lt_of_le HBL.out z7.size)
                clear HR n2 z7
                rw [HLI.out] at hl1
                clear HLI
                obtain ⟨nl2, hnl2⟩ : ∃ nl2, l'.length = nl2 := ⟨_, rfl⟩
                rw [hnl2] at hc2 hl1 ⊢
                have HLI := Lib.hid hnl2
                clear hnl2 E1
                obtain ⟨o', p', k', v', x', y', r'⟩ := f'
                simp only at q1 q2
                subst q1 q2
                go_upto_region 20 with (fail)
                have bf3 := Bf.new w7 ⟨o', p', k', v', x', y', r'⟩
                have z8 := box_below w7 (.cells #[.int .i64 o', .int .i64 p', .int .i64 k', .int .u64 v', .int .u64 x', .int .u64 y', .int .i64 r'] 28)
                simp only at bf3
                generalize w7.alloc (.cells #[.int .i64 o', .int .i64 p', .int .i64 k', .int .u64 v', .int .u64 x', .int .u64 y', .int .i64 r'] 28) = w8 at bf3 z8 ⊢
                replace HZ := Lib.hid (HZ.out.trans (z8.mono HZ.out.size))
                replace HR2 := Lib.hid (HR2.out.below z8)
                have c7 := HC7.out.same (z8.block _ HBL.out)
                clear z8
                obtain ⟨a0, a1, a2, a3, a4, a5, a6⟩ := c7
                obtain ⟨b0, b1, b2, b3, b4, b5, b6⟩ := bf3.cells
                simp only at a3 a6 b3 b6
                have x1 : (r' != r') = false := by simp
                have x2 : (v' != v') = false := by simp
                go_wp2_with fail
                go_quiet (fail)
                go_wp2
                go_roundw
                case rel => exact ⟨i + 1, A2, c2, nl2, l', rfl, by go_num, by omega, HLI, hc2, by omega, HR2, Q4, Lib.hid (HZ.out.trans ((below_drewN w8 nq).mono HZ.out.size))⟩
                case measure => simp [intOf]; omega
            · go_wp2
              go_ret
              exact ⟨rfl, Z4.out.trans (HZ.out.mono Z4.out.size)⟩
  · have d_h30 : decide ((n : Int) > 30) = true := decide_eq_true (by omega)
    go_wp2
    go_ret
    exact ⟨rfl, Z1.out⟩
end Go.Proofs.Ytppllanmgdhabaa
