/- The walk of WorkCell. -/
import Derived.Test.YtlpkccpijloidaaGreatWkL
import Derived.Deep.QuietTactic
import Derived.BigQuiet
namespace Go.Proofs.YtlpkccpijloidaaGreat
set_option maxRecDepth 100000
open Go.RowKit Go.Deep
theorem evx_later {w w' : World} {A : Option Addr} {l : List Evn} (h : Evx.Ir w.heap.size w A l) (hb : Below w.heap.size w w') : Evx.Ir w'.heap.size w' A l := (h.below hb).mono hb.size
/-- So many cells differ ahead of place j: none, or one. -/
structure CntR (m m' : List Int) (j cn : Nat) : Prop where
  le : cn ≤ 1
  none : cn = 0 → ∀ k : Nat, k < j → at0 m' k = at0 m k
  some : cn = 1 → ∃ k : Nat, k < j ∧ ¬ at0 m' k = at0 m k
theorem CntR.zero (m m' : List Int) : CntR m m' 0 0 := ⟨by omega, fun _ k h => by omega, fun h => by omega⟩
theorem CntR.same {m m' : List Int} {j cn : Nat} (h : CntR m m' j cn) (e : at0 m' j = at0 m j) : CntR m m' (j + 1) cn := by
  refine ⟨h.le, fun h0 k hk => ?_, fun h1 => ?_⟩
  · by_cases c : k = j
    · subst c; exact e
    · exact h.none h0 k (by omega)
  · obtain ⟨k, hk, hd⟩ := h.some h1
    exact ⟨k, by omega, hd⟩
theorem CntR.more {m m' : List Int} {j cn : Nat} (h : CntR m m' j cn) (one : ∃ c : Int, ∀ k : Nat, ¬ at0 m' k = at0 m k → (k : Int) = c) (e : ¬ at0 m' j = at0 m j) : cn = 0 ∧ CntR m m' (j + 1) 1 := by
  have h0 : cn = 0 := by
    rcases Nat.lt_or_ge cn 1 with c | c
    · omega
    · have h1 : cn = 1 := by have := h.le; omega
      obtain ⟨k, hk, hd⟩ := h.some h1
      obtain ⟨q, hq⟩ := one
      have a := hq k hd
      have b := hq j e
      omega
  exact ⟨h0, by omega, fun h1 => by omega, fun _ => ⟨j, by omega, e⟩⟩
set_option maxHeartbeats 8000000 in
theorem cell_few {W D J S me d : Int} {AT A SA : Option Addr} {ct c cs : Nat} {T : List Fo.Tsk} {x : WkS} {m : List Int} {w : World} (hT : Fo.Tk w.heap.size w AT T) (hTl : T.length ≤ maxLen) (hTk : ∀ y ∈ T, y.2.length ≤ maxLen) (hA : Rd w A m) (hS : Fo.Ir w.heap.size w SA x.stk) (hu : UM m) (hf : UF x.f) (hsp : I x.spins) (hlk : I x.look) (hd : U d) (hme : I me) (hq : (Fo.few T && decide ((x.stk.length : Int) ≤ 40)) = false) : Tells 3 #[cf W D J S, .slice AT T.length ct, .slice A m.length c, .int .i64 me, wv x (.slice SA x.stk.length cs), .int .u64 d] w (.bool true) := by
  have HT := Lib.hid hT
  have HTL := Lib.hid hTl
  have HTK := Lib.hid hTk
  have HA := Lib.hid hA
  have HS := Lib.hid hS
  have HU := Lib.hid hu
  have HF := Lib.hid hf
  have HSP := Lib.hid hsp
  have HLK := Lib.hid hlk
  have HME := Lib.hid hme
  have HDd := Lib.hid hd
  have H_hq := Lib.hid hq
  clear hT hTl hTk hA hS hu hf hsp hlk hme hd hq
  have Z := Lib.hid ((bel_alloc w (.cells #[.int .i64 W, .int .i64 D, .int .i64 J, .int .i64 S] 23)).trans ((bel_alloc (w.alloc (.cells #[.int .i64 W, .int .i64 D, .int .i64 J, .int .i64 S] 23)) (.cells #[.int .i64 x.pc, .slice SA x.stk.length cs, .int .i64 x.f.op, .int .i64 x.f.pc, .int .i64 x.f.who, .int .u64 x.f.val, .int .u64 x.f.x, .int .u64 x.f.y, .int .i64 x.f.res, .int .i64 x.spins, .int .i64 x.look] 32)).mono (by simp)))
  have BX := Lib.hid ((Bx.mk w W D J S 23).below (bel_alloc _ (.cells #[.int .i64 x.pc, .slice SA x.stk.length cs, .int .i64 x.f.op, .int .i64 x.f.pc, .int .i64 x.f.who, .int .u64 x.f.val, .int .u64 x.f.x, .int .u64 x.f.y, .int .i64 x.f.res, .int .i64 x.spins, .int .i64 x.look] 32)))
  have BV := Lib.hid (Wvb.new1 (w.alloc (.cells #[.int .i64 W, .int .i64 D, .int .i64 J, .int .i64 S] 23)) (g := w.heap.size + 1) x (.slice SA x.stk.length cs) (by simp))
  go_enter Tryz.func3, Tryz.ntmps3
  go_wp2_with fail
  refine (wawake_any _).mono ?_
  rintro _ w1 ⟨rfl, zz⟩
  replace BX := Lib.hid (BX.out.below zz)
  replace BV := Lib.hid (BV.out.after zz)
  replace Z := Lib.hid (Z.out.trans (zz.mono Z.out.size))
  clear zz
  obtain ⟨_, e0, e1, e2, e3⟩ := BX.out
  obtain ⟨f0, f1, f2, f3, f4, f5, f6, f7, f8, f9, f10⟩ := BV.out.cells
  go_wp2_with fail
  refine (wfew_any (x := x) (HT.out.later Z.out) HTL.out HTK.out (q := false) H_hq.out).mono ?_
  rintro _ w2 ⟨rfl, zz⟩
  clear e0 e1 e2 e3 f0 f1 f2 f3 f4 f5 f6 f7 f8 f9 f10
  replace BX := Lib.hid (BX.out.below zz)
  replace BV := Lib.hid (BV.out.after zz)
  replace Z := Lib.hid (Z.out.trans (zz.mono Z.out.size))
  clear zz
  obtain ⟨_, e0, e1, e2, e3⟩ := BX.out
  obtain ⟨f0, f1, f2, f3, f4, f5, f6, f7, f8, f9, f10⟩ := BV.out.cells
  go_wp2
  go_ret
  exact ⟨rfl, Z.out⟩
set_option maxHeartbeats 8000000 in
theorem cell_big {W D J S me d : Int} {AT A SA : Option Addr} {ct c cs : Nat} {T : List Fo.Tsk} {x : WkS} {m : List Int} {w : World} (hT : Fo.Tk w.heap.size w AT T) (hTl : T.length ≤ maxLen) (hTk : ∀ y ∈ T, y.2.length ≤ maxLen) (hA : Rd w A m) (hS : Fo.Ir w.heap.size w SA x.stk) (hu : UM m) (hf : UF x.f) (hsp : I x.spins) (hlk : I x.look) (hd : U d) (hme : I me) (hq : (Fo.few T && decide ((x.stk.length : Int) ≤ 40)) = true) (hb : 500 < m.length) : Tells 3 #[cf W D J S, .slice AT T.length ct, .slice A m.length c, .int .i64 me, wv x (.slice SA x.stk.length cs), .int .u64 d] w (.bool true) := by
  have hd5 : decide ((500 : Int) < (m.length : Int)) = true := decide_eq_true (by omega)
  have HT := Lib.hid hT
  have HTL := Lib.hid hTl
  have HTK := Lib.hid hTk
  have HA := Lib.hid hA
  have HS := Lib.hid hS
  have HU := Lib.hid hu
  have HF := Lib.hid hf
  have HSP := Lib.hid hsp
  have HLK := Lib.hid hlk
  have HME := Lib.hid hme
  have HDd := Lib.hid hd
  have H_hq := Lib.hid hq
  clear hT hTl hTk hA hS hu hf hsp hlk hme hd hq
  have Z := Lib.hid ((bel_alloc w (.cells #[.int .i64 W, .int .i64 D, .int .i64 J, .int .i64 S] 23)).trans ((bel_alloc (w.alloc (.cells #[.int .i64 W, .int .i64 D, .int .i64 J, .int .i64 S] 23)) (.cells #[.int .i64 x.pc, .slice SA x.stk.length cs, .int .i64 x.f.op, .int .i64 x.f.pc, .int .i64 x.f.who, .int .u64 x.f.val, .int .u64 x.f.x, .int .u64 x.f.y, .int .i64 x.f.res, .int .i64 x.spins, .int .i64 x.look] 32)).mono (by simp)))
  have BX := Lib.hid ((Bx.mk w W D J S 23).below (bel_alloc _ (.cells #[.int .i64 x.pc, .slice SA x.stk.length cs, .int .i64 x.f.op, .int .i64 x.f.pc, .int .i64 x.f.who, .int .u64 x.f.val, .int .u64 x.f.x, .int .u64 x.f.y, .int .i64 x.f.res, .int .i64 x.spins, .int .i64 x.look] 32)))
  have BV := Lib.hid (Wvb.new1 (w.alloc (.cells #[.int .i64 W, .int .i64 D, .int .i64 J, .int .i64 S] 23)) (g := w.heap.size + 1) x (.slice SA x.stk.length cs) (by simp))
  go_enter Tryz.func3, Tryz.ntmps3
  go_wp2_with fail
  refine (wawake_any _).mono ?_
  rintro _ w1 ⟨rfl, zz⟩
  replace BX := Lib.hid (BX.out.below zz)
  replace BV := Lib.hid (BV.out.after zz)
  replace Z := Lib.hid (Z.out.trans (zz.mono Z.out.size))
  clear zz
  obtain ⟨_, e0, e1, e2, e3⟩ := BX.out
  obtain ⟨f0, f1, f2, f3, f4, f5, f6, f7, f8, f9, f10⟩ := BV.out.cells
  go_wp2_with fail
  refine (wfew_any (x := x) (HT.out.later Z.out) HTL.out HTK.out (q := true) H_hq.out).mono ?_
  rintro _ w2 ⟨rfl, zz⟩
  clear e0 e1 e2 e3 f0 f1 f2 f3 f4 f5 f6 f7 f8 f9 f10
  replace BX := Lib.hid (BX.out.below zz)
  replace BV := Lib.hid (BV.out.after zz)
  replace Z := Lib.hid (Z.out.trans (zz.mono Z.out.size))
  clear zz
  obtain ⟨_, e0, e1, e2, e3⟩ := BX.out
  obtain ⟨f0, f1, f2, f3, f4, f5, f6, f7, f8, f9, f10⟩ := BV.out.cells
  go_wp2
  go_ret
  exact ⟨rfl, Z.out⟩
set_option maxHeartbeats 8000000 in
theorem cell_yes {W D J S me d : Int} {AT A SA : Option Addr} {ct c cs : Nat} {T : List Fo.Tsk} {x : WkS} {m : List Int} {w : World} (hT : Fo.Tk w.heap.size w AT T) (hTl : T.length ≤ maxLen) (hTk : ∀ y ∈ T, y.2.length ≤ maxLen) (hA : Rd w A m) (hS : Fo.Ir w.heap.size w SA x.stk) (hu : UM m) (hf : UF x.f) (hsp : I x.spins) (hlk : I x.look) (hd : U d) (hme : I me) (hq : (Fo.few T && decide ((x.stk.length : Int) ≤ 40)) = true) (hsm : Fo.Sm T) (hok : m.length ≤ 500 ∧ x.stk.length ≤ 900) (hm : mayW W D J S T m me x = true) {m' : List Int} {z : WkS} {l' : List Evn} (hw : workS W D J S T m me x d = (m', z, l')) (hone : ∃ c : Int, ∀ k : Nat, ¬ at0 m' k = at0 m k → (k : Int) = c) (hln : m'.length = m.length) (hev : l'.length ≤ 2) (hm2 : mayW W D J S T m' me z = true) (hsl : z.stk.length ≤ 1000) : Tells 3 #[cf W D J S, .slice AT T.length ct, .slice A m.length c, .int .i64 me, wv x (.slice SA x.stk.length cs), .int .u64 d] w (.bool true) := by
  have hd5 : decide ((500 : Int) < (m.length : Int)) = false := decide_eq_false (by omega)
  have hd2 : decide ((2 : Int) < (l'.length : Int)) = false := decide_eq_false (by omega)
  have hln2 : ((m'.length : Int) != (m.length : Int)) = false := by simp [hln]
  have HT := Lib.hid hT
  have HTL := Lib.hid hTl
  have HTK := Lib.hid hTk
  have HA := Lib.hid hA
  have HS := Lib.hid hS
  have HU := Lib.hid hu
  have HF := Lib.hid hf
  have HSP := Lib.hid hsp
  have HLK := Lib.hid hlk
  have HME := Lib.hid hme
  have HDd := Lib.hid hd
  have H_hq := Lib.hid hq
  have H_hsm := Lib.hid hsm
  have H_hok := Lib.hid hok
  have H_hm := Lib.hid hm
  have H_hw := Lib.hid hw
  have H_hone := Lib.hid hone
  have H_hm2 := Lib.hid hm2
  have H_hln := Lib.hid hln
  have H_hev := Lib.hid hev
  have H_hsl := Lib.hid hsl
  clear hT hTl hTk hA hS hu hf hsp hlk hme hd hq hsm hok hm hw hone hm2 hln hev hsl
  have Z := Lib.hid ((bel_alloc w (.cells #[.int .i64 W, .int .i64 D, .int .i64 J, .int .i64 S] 23)).trans ((bel_alloc (w.alloc (.cells #[.int .i64 W, .int .i64 D, .int .i64 J, .int .i64 S] 23)) (.cells #[.int .i64 x.pc, .slice SA x.stk.length cs, .int .i64 x.f.op, .int .i64 x.f.pc, .int .i64 x.f.who, .int .u64 x.f.val, .int .u64 x.f.x, .int .u64 x.f.y, .int .i64 x.f.res, .int .i64 x.spins, .int .i64 x.look] 32)).mono (by simp)))
  have BX := Lib.hid ((Bx.mk w W D J S 23).below (bel_alloc _ (.cells #[.int .i64 x.pc, .slice SA x.stk.length cs, .int .i64 x.f.op, .int .i64 x.f.pc, .int .i64 x.f.who, .int .u64 x.f.val, .int .u64 x.f.x, .int .u64 x.f.y, .int .i64 x.f.res, .int .i64 x.spins, .int .i64 x.look] 32)))
  have BV := Lib.hid (Wvb.new1 (w.alloc (.cells #[.int .i64 W, .int .i64 D, .int .i64 J, .int .i64 S] 23)) (g := w.heap.size + 1) x (.slice SA x.stk.length cs) (by simp))
  go_enter Tryz.func3, Tryz.ntmps3
  go_wp2_with fail
  refine (wawake_any _).mono ?_
  rintro _ w1 ⟨rfl, zz⟩
  replace BX := Lib.hid (BX.out.below zz)
  replace BV := Lib.hid (BV.out.after zz)
  replace Z := Lib.hid (Z.out.trans (zz.mono Z.out.size))
  clear zz
  obtain ⟨_, e0, e1, e2, e3⟩ := BX.out
  obtain ⟨f0, f1, f2, f3, f4, f5, f6, f7, f8, f9, f10⟩ := BV.out.cells
  go_wp2_with fail
  refine (wfew_any (x := x) (HT.out.later Z.out) HTL.out HTK.out (q := true) H_hq.out).mono ?_
  rintro _ w2 ⟨rfl, zz⟩
  clear e0 e1 e2 e3 f0 f1 f2 f3 f4 f5 f6 f7 f8 f9 f10
  replace BX := Lib.hid (BX.out.below zz)
  replace BV := Lib.hid (BV.out.after zz)
  replace Z := Lib.hid (Z.out.trans (zz.mono Z.out.size))
  clear zz
  obtain ⟨_, e0, e1, e2, e3⟩ := BX.out
  obtain ⟨f0, f1, f2, f3, f4, f5, f6, f7, f8, f9, f10⟩ := BV.out.cells
  go_wp2_with fail
  refine (wstep_n (HT.out.later Z.out) (HA.out.below Z.out) (HS.out.later Z.out) H_hsm.out H_hok.out HU.out HF.out HSP.out HLK.out HDd.out HME.out rfl H_hw.out).mono ?_
  rintro _ w3 ⟨A1, c1, S1, s1, E1, ce1, rfl, r1, r2, r3, zz⟩
  have HM1 := Lib.hid r1
  have HS1 := Lib.hid r2
  have HE1 := Lib.hid r3
  clear r1 r2 r3
  clear e0 e1 e2 e3 f0 f1 f2 f3 f4 f5 f6 f7 f8 f9 f10
  replace BX := Lib.hid (BX.out.below zz)
  replace BV := Lib.hid (BV.out.after zz)
  replace Z := Lib.hid (Z.out.trans (zz.mono Z.out.size))
  clear zz
  obtain ⟨_, e0, e1, e2, e3⟩ := BX.out
  obtain ⟨f0, f1, f2, f3, f4, f5, f6, f7, f8, f9, f10⟩ := BV.out.cells
  go_upto_region 6 with fail
  clear e0 e1 e2 e3 f0 f1 f2 f3 f4 f5 f6 f7 f8 f9 f10
  have zz := bel_alloc w3 (.cells #[.int .i64 z.pc, .slice S1 z.stk.length s1, .int .i64 z.f.op, .int .i64 z.f.pc, .int .i64 z.f.who, .int .u64 z.f.val, .int .u64 z.f.x, .int .u64 z.f.y, .int .i64 z.f.res, .int .i64 z.spins, .int .i64 z.look] 32)
  replace BX := Lib.hid (BX.out.below zz)
  replace BV := Lib.hid (BV.out.after zz)
  have BY := Lib.hid (Wvb.new w3 z (.slice S1 z.stk.length s1))
  replace HM1 := Lib.hid (HM1.out.below zz)
  replace HS1 := Lib.hid (HS1.out.later zz)
  replace HE1 := Lib.hid (evx_later HE1.out zz)
  replace Z := Lib.hid (Z.out.trans (zz.mono Z.out.size))
  clear zz
  have hgx1 : w3.heap.size = w3.heap.size := rfl
  generalize hv1 : w3.alloc (.cells #[.int .i64 z.pc, .slice S1 z.stk.length s1, .int .i64 z.f.op, .int .i64 z.f.pc, .int .i64 z.f.who, .int .u64 z.f.val, .int .u64 z.f.x, .int .u64 z.f.y, .int .i64 z.f.res, .int .i64 z.spins, .int .i64 z.look] 32) = v1 at *
  generalize w3.heap.size = g1 at *
  clear hv1 hgx1
  have Z4 := Lib.hid (Below.refl v1.heap.size v1)
  obtain ⟨_, e0, e1, e2, e3⟩ := BX.out
  obtain ⟨f0, f1, f2, f3, f4, f5, f6, f7, f8, f9, f10⟩ := BV.out.cells
  obtain ⟨g0, g1, g2, g3, g4, g5, g6, g7, g8, g9, g10⟩ := BY.out.cells
  have hlg := BY.out.lt
  go_wp2
  go_loopw [18, 19] (fun n i wr => ∃ (j cn : Nat), n = .int .i64 cn ∧ i = .int .i64 j ∧ j ≤ m.length ∧ Hid (CntR m m' j cn) ∧ Hid (Below v1.heap.size v1 wr)) (fun _ i _ => m.length - (intOf i).toNat)
  case atStart => exact ⟨0, 0, rfl, rfl, Nat.zero_le _, Lib.hid (CntR.zero _ _), Lib.hid (Below.refl _ _)⟩
  case round =>
    obtain ⟨j, cn, rfl, rfl, hj, HR, HZ⟩ := hrel
    have hcn := HR.out.le
    have hj5 := H_hok.out.1
    by_cases hlt : j < m.length
    · have hln := H_hln.out
      obtain ⟨ad, rfl, adb, adc⟩ := (HM1.out.below HZ.out) (by omega)
      have k1 := adc j _ (List.getElem?_eq_getElem (show j < m'.length by omega))
      obtain ⟨ae, rfl, aeb, aec⟩ := ((HA.out.below Z.out).below HZ.out) (by omega)
      have k2 := aec j _ (List.getElem?_eq_getElem (show j < m.length by omega))
      have r1 := at0_in (l := m') (i := (j : Int)) (by omega) (by omega)
      have r2 := at0_in (l := m) (i := (j : Int)) (by omega) (by omega)
      simp only [Int.toNat_natCast] at r1 r2
      rw [← r1] at k1
      rw [← r2] at k2
      have hjl : (j : Int) < (m.length : Int) := by omega
      have hjl2 : (j : Int) < (m'.length : Int) := by omega
      clear r1 r2 adc aec adb aeb hln
      by_cases hd : at0 m' j = at0 m j
      · have huv : (at0 m' j != at0 m j) = false := by simpa using hd
        have HDD := Lib.hid hd
        clear hd
        obtain ⟨u1, hu1⟩ : ∃ u1, at0 m' j = u1 := ⟨_, rfl⟩
        obtain ⟨u2, hu2⟩ : ∃ u2, at0 m j = u2 := ⟨_, rfl⟩
        rw [hu1] at k1 huv
        rw [hu2] at k2 huv
        clear hu1 hu2
        go_wp2_with fail
        go_quiet (fail)
        go_wp2
        go_roundw
        case rel => exact ⟨j + 1, cn, by go_num, by go_num, by omega, Lib.hid (HR.out.same HDD.out), Lib.hid (HZ.out.trans ((below_drewN _ _).mono HZ.out.size))⟩
        case measure => simp [intOf]; omega
      · have huv : (at0 m' j != at0 m j) = true := by simpa using hd
        have HDD := Lib.hid hd
        clear hd
        obtain ⟨u1, hu1⟩ : ∃ u1, at0 m' j = u1 := ⟨_, rfl⟩
        obtain ⟨u2, hu2⟩ : ∃ u2, at0 m j = u2 := ⟨_, rfl⟩
        rw [hu1] at k1 huv
        rw [hu2] at k2 huv
        clear hu1 hu2
        obtain ⟨h0, HR2⟩ := HR.out.more H_hone.out HDD.out
        have HR3 := Lib.hid HR2
        subst h0
        clear HR2
        go_wp2_with fail
        go_quiet (fail)
        go_wp2
        go_roundw
        case rel => exact ⟨j + 1, 1, by go_num, by go_num, by omega, Lib.hid HR3.out, Lib.hid (HZ.out.trans ((below_drewN _ _).mono HZ.out.size))⟩
        case measure => simp [intOf]; omega
    · obtain rfl : j = m.length := by omega
      have zz := HZ.out
      clear e0 e1 e2 e3 f0 f1 f2 f3 f4 f5 f6 f7 f8 f9 f10 g0 g1 g2 g3 g4 g5 g6 g7 g8 g9 g10 hlg
      replace BX := Lib.hid (BX.out.below zz)
      replace BV := Lib.hid (BV.out.after zz)
      replace BY := Lib.hid (BY.out.after zz)
      replace Z4 := Lib.hid (Z4.out.trans (zz.mono Z4.out.size))
      replace Z := Lib.hid (Z.out.trans (zz.mono Z.out.size))
      have hdl : decide ((m.length : Int) < (m.length : Int)) = false := decide_eq_false (by omega)
      clear zz
      obtain ⟨_, e0, e1, e2, e3⟩ := BX.out
      obtain ⟨f0, f1, f2, f3, f4, f5, f6, f7, f8, f9, f10⟩ := BV.out.cells
      obtain ⟨g0, g1, g2, g3, g4, g5, g6, g7, g8, g9, g10⟩ := BY.out.cells
      have hlg := BY.out.lt
      go_wp2_with fail
      refine (Tells.of (wmay_any (n₀ := _) (x := x) (m := m) (SA := SA) (cs := cs) (HT.out.later Z.out) (HS.out.later Z.out) (Nat.le_refl _) H_hsm.out (by have := H_hok.out.2; omega) rfl) (v' := .bool true) (by rw [H_hm.out])).mono ?_
      rintro _ w4 ⟨rfl, zz⟩
      clear e0 e1 e2 e3 f0 f1 f2 f3 f4 f5 f6 f7 f8 f9 f10 g0 g1 g2 g3 g4 g5 g6 g7 g8 g9 g10 hlg
      replace BX := Lib.hid (BX.out.below zz)
      replace BV := Lib.hid (BV.out.after zz)
      replace BY := Lib.hid (BY.out.after zz)
      replace Z4 := Lib.hid (Z4.out.trans (zz.mono Z4.out.size))
      replace Z := Lib.hid (Z.out.trans (zz.mono Z.out.size))
      clear zz
      obtain ⟨_, e0, e1, e2, e3⟩ := BX.out
      obtain ⟨f0, f1, f2, f3, f4, f5, f6, f7, f8, f9, f10⟩ := BV.out.cells
      obtain ⟨g0, g1, g2, g3, g4, g5, g6, g7, g8, g9, g10⟩ := BY.out.cells
      have hlg := BY.out.lt
      have hd1 : decide ((cn : Int) ≤ 1) = true := decide_eq_true (by omega)
      go_wp2_with fail
      refine (Tells.of (wmay_any (n₀ := _) (x := z) (m := m') (SA := S1) (cs := s1) (HT.out.later Z.out) (HS1.out.later Z4.out) (Nat.le_refl _) H_hsm.out H_hsl.out H_hln.out) (v' := .bool true) (by rw [H_hm2.out])).mono ?_
      rintro _ w5 ⟨rfl, zz⟩
      clear e0 e1 e2 e3 f0 f1 f2 f3 f4 f5 f6 f7 f8 f9 f10 g0 g1 g2 g3 g4 g5 g6 g7 g8 g9 g10 hlg
      replace BX := Lib.hid (BX.out.below zz)
      replace BV := Lib.hid (BV.out.after zz)
      replace BY := Lib.hid (BY.out.after zz)
      replace Z4 := Lib.hid (Z4.out.trans (zz.mono Z4.out.size))
      replace Z := Lib.hid (Z.out.trans (zz.mono Z.out.size))
      clear zz
      obtain ⟨_, e0, e1, e2, e3⟩ := BX.out
      obtain ⟨f0, f1, f2, f3, f4, f5, f6, f7, f8, f9, f10⟩ := BV.out.cells
      obtain ⟨g0, g1, g2, g3, g4, g5, g6, g7, g8, g9, g10⟩ := BY.out.cells
      have hlg := BY.out.lt
      go_wp2
      go_ret
      exact ⟨rfl, Z.out⟩
set_option maxHeartbeats 8000000 in
theorem cell_no {W D J S me d : Int} {AT A SA : Option Addr} {ct c cs : Nat} {T : List Fo.Tsk} {x : WkS} {m : List Int} {w : World} (hT : Fo.Tk w.heap.size w AT T) (hTl : T.length ≤ maxLen) (hTk : ∀ y ∈ T, y.2.length ≤ maxLen) (hA : Rd w A m) (hS : Fo.Ir w.heap.size w SA x.stk) (hu : UM m) (hf : UF x.f) (hsp : I x.spins) (hlk : I x.look) (hd : U d) (hme : I me) (hq : (Fo.few T && decide ((x.stk.length : Int) ≤ 40)) = true) (hsm : Fo.Sm T) (hok : m.length ≤ 500 ∧ x.stk.length ≤ 900) (hm : mayW W D J S T m me x = false) {m' : List Int} {z : WkS} {l' : List Evn} (hw : workS W D J S T m me x d = (m', z, l')) (hone : ∃ c : Int, ∀ k : Nat, ¬ at0 m' k = at0 m k → (k : Int) = c) (hln : m'.length = m.length) (hev : l'.length ≤ 2) : Tells 3 #[cf W D J S, .slice AT T.length ct, .slice A m.length c, .int .i64 me, wv x (.slice SA x.stk.length cs), .int .u64 d] w (.bool true) := by
  rw [workS_no hm] at hw
  obtain ⟨rfl, rfl, rfl⟩ := hw
  have hw : workS W D J S T m me x d = (m, x, []) := workS_no hm
  have hd5 : decide ((500 : Int) < (m.length : Int)) = false := decide_eq_false (by omega)
  have hd2 : decide ((2 : Int) < (([] : List Evn).length : Int)) = false := decide_eq_false (by omega)
  have hln2 : ((m.length : Int) != (m.length : Int)) = false := by simp
  have HT := Lib.hid hT
  have HTL := Lib.hid hTl
  have HTK := Lib.hid hTk
  have HA := Lib.hid hA
  have HS := Lib.hid hS
  have HU := Lib.hid hu
  have HF := Lib.hid hf
  have HSP := Lib.hid hsp
  have HLK := Lib.hid hlk
  have HME := Lib.hid hme
  have HDd := Lib.hid hd
  have H_hq := Lib.hid hq
  have H_hsm := Lib.hid hsm
  have H_hok := Lib.hid hok
  have H_hm := Lib.hid hm
  have H_hw := Lib.hid hw
  have H_hone := Lib.hid hone
  clear hT hTl hTk hA hS hu hf hsp hlk hme hd hq hsm hok hm hw hone
  have Z := Lib.hid ((bel_alloc w (.cells #[.int .i64 W, .int .i64 D, .int .i64 J, .int .i64 S] 23)).trans ((bel_alloc (w.alloc (.cells #[.int .i64 W, .int .i64 D, .int .i64 J, .int .i64 S] 23)) (.cells #[.int .i64 x.pc, .slice SA x.stk.length cs, .int .i64 x.f.op, .int .i64 x.f.pc, .int .i64 x.f.who, .int .u64 x.f.val, .int .u64 x.f.x, .int .u64 x.f.y, .int .i64 x.f.res, .int .i64 x.spins, .int .i64 x.look] 32)).mono (by simp)))
  have BX := Lib.hid ((Bx.mk w W D J S 23).below (bel_alloc _ (.cells #[.int .i64 x.pc, .slice SA x.stk.length cs, .int .i64 x.f.op, .int .i64 x.f.pc, .int .i64 x.f.who, .int .u64 x.f.val, .int .u64 x.f.x, .int .u64 x.f.y, .int .i64 x.f.res, .int .i64 x.spins, .int .i64 x.look] 32)))
  have BV := Lib.hid (Wvb.new1 (w.alloc (.cells #[.int .i64 W, .int .i64 D, .int .i64 J, .int .i64 S] 23)) (g := w.heap.size + 1) x (.slice SA x.stk.length cs) (by simp))
  go_enter Tryz.func3, Tryz.ntmps3
  go_wp2_with fail
  refine (wawake_any _).mono ?_
  rintro _ w1 ⟨rfl, zz⟩
  replace BX := Lib.hid (BX.out.below zz)
  replace BV := Lib.hid (BV.out.after zz)
  replace Z := Lib.hid (Z.out.trans (zz.mono Z.out.size))
  clear zz
  obtain ⟨_, e0, e1, e2, e3⟩ := BX.out
  obtain ⟨f0, f1, f2, f3, f4, f5, f6, f7, f8, f9, f10⟩ := BV.out.cells
  go_wp2_with fail
  refine (wfew_any (x := x) (HT.out.later Z.out) HTL.out HTK.out (q := true) H_hq.out).mono ?_
  rintro _ w2 ⟨rfl, zz⟩
  clear e0 e1 e2 e3 f0 f1 f2 f3 f4 f5 f6 f7 f8 f9 f10
  replace BX := Lib.hid (BX.out.below zz)
  replace BV := Lib.hid (BV.out.after zz)
  replace Z := Lib.hid (Z.out.trans (zz.mono Z.out.size))
  clear zz
  obtain ⟨_, e0, e1, e2, e3⟩ := BX.out
  obtain ⟨f0, f1, f2, f3, f4, f5, f6, f7, f8, f9, f10⟩ := BV.out.cells
  have hzz : True := trivial
  obtain ⟨z, hz⟩ : ∃ z, z = x := ⟨x, rfl⟩
  replace H_hw := Lib.hid (show workS W D J S T m me x d = (m, z, []) by rw [hz]; exact H_hw.out)
  have HZX := Lib.hid hz
  clear hz
  go_wp2_with fail
  refine (wstep_n (HT.out.later Z.out) (HA.out.below Z.out) (HS.out.later Z.out) H_hsm.out H_hok.out HU.out HF.out HSP.out HLK.out HDd.out HME.out rfl H_hw.out).mono ?_
  rintro _ w3 ⟨A1, c1, S1, s1, E1, ce1, rfl, r1, r2, r3, zz⟩
  have HM1 := Lib.hid r1
  have HS1 := Lib.hid r2
  have HE1 := Lib.hid r3
  clear r1 r2 r3
  clear e0 e1 e2 e3 f0 f1 f2 f3 f4 f5 f6 f7 f8 f9 f10
  replace BX := Lib.hid (BX.out.below zz)
  replace BV := Lib.hid (BV.out.after zz)
  replace Z := Lib.hid (Z.out.trans (zz.mono Z.out.size))
  clear zz
  obtain ⟨_, e0, e1, e2, e3⟩ := BX.out
  obtain ⟨f0, f1, f2, f3, f4, f5, f6, f7, f8, f9, f10⟩ := BV.out.cells
  go_upto_region 6 with fail
  clear e0 e1 e2 e3 f0 f1 f2 f3 f4 f5 f6 f7 f8 f9 f10
  have zz := bel_alloc w3 (.cells #[.int .i64 z.pc, .slice S1 z.stk.length s1, .int .i64 z.f.op, .int .i64 z.f.pc, .int .i64 z.f.who, .int .u64 z.f.val, .int .u64 z.f.x, .int .u64 z.f.y, .int .i64 z.f.res, .int .i64 z.spins, .int .i64 z.look] 32)
  replace BX := Lib.hid (BX.out.below zz)
  replace BV := Lib.hid (BV.out.after zz)
  have BY := Lib.hid (Wvb.new w3 z (.slice S1 z.stk.length s1))
  replace HM1 := Lib.hid (HM1.out.below zz)
  replace HS1 := Lib.hid (HS1.out.later zz)
  replace HE1 := Lib.hid (evx_later HE1.out zz)
  replace Z := Lib.hid (Z.out.trans (zz.mono Z.out.size))
  clear zz
  have hgx1 : w3.heap.size = w3.heap.size := rfl
  generalize hv1 : w3.alloc (.cells #[.int .i64 z.pc, .slice S1 z.stk.length s1, .int .i64 z.f.op, .int .i64 z.f.pc, .int .i64 z.f.who, .int .u64 z.f.val, .int .u64 z.f.x, .int .u64 z.f.y, .int .i64 z.f.res, .int .i64 z.spins, .int .i64 z.look] 32) = v1 at *
  generalize w3.heap.size = g1 at *
  clear hv1 hgx1
  have Z4 := Lib.hid (Below.refl v1.heap.size v1)
  obtain ⟨_, e0, e1, e2, e3⟩ := BX.out
  obtain ⟨f0, f1, f2, f3, f4, f5, f6, f7, f8, f9, f10⟩ := BV.out.cells
  obtain ⟨g0, g1, g2, g3, g4, g5, g6, g7, g8, g9, g10⟩ := BY.out.cells
  have hlg := BY.out.lt
  go_wp2
  go_loopw [18, 19] (fun n i wr => ∃ (j cn : Nat), n = .int .i64 cn ∧ i = .int .i64 j ∧ j ≤ m.length ∧ Hid (CntR m m j cn) ∧ Hid (Below v1.heap.size v1 wr)) (fun _ i _ => m.length - (intOf i).toNat)
  case atStart => exact ⟨0, 0, rfl, rfl, Nat.zero_le _, Lib.hid (CntR.zero _ _), Lib.hid (Below.refl _ _)⟩
  case round =>
    obtain ⟨j, cn, rfl, rfl, hj, HR, HZ⟩ := hrel
    have hcn := HR.out.le
    have hj5 := H_hok.out.1
    by_cases hlt : j < m.length
    · obtain ⟨ad, rfl, adb, adc⟩ := (HM1.out.below HZ.out) (by omega)
      have k1 := adc j _ (List.getElem?_eq_getElem (show j < m.length by omega))
      obtain ⟨ae, rfl, aeb, aec⟩ := ((HA.out.below Z.out).below HZ.out) (by omega)
      have k2 := aec j _ (List.getElem?_eq_getElem (show j < m.length by omega))
      have r1 := at0_in (l := m) (i := (j : Int)) (by omega) (by omega)
      have r2 := at0_in (l := m) (i := (j : Int)) (by omega) (by omega)
      simp only [Int.toNat_natCast] at r1 r2
      rw [← r1] at k1
      rw [← r2] at k2
      have hjl : (j : Int) < (m.length : Int) := by omega
      have hjl2 : (j : Int) < (m.length : Int) := by omega
      clear r1 r2 adc aec adb aeb
      by_cases hd : at0 m j = at0 m j
      · have huv : (at0 m j != at0 m j) = false := by simp
        have HDD := Lib.hid hd
        clear hd
        go_wp2_with fail
        go_quiet (fail)
        go_wp2
        go_roundw
        case rel => exact ⟨j + 1, cn, by go_num, by go_num, by omega, Lib.hid (HR.out.same rfl), Lib.hid (HZ.out.trans ((below_drewN _ _).mono HZ.out.size))⟩
        case measure => simp [intOf]; omega
      · exact absurd rfl hd
    · obtain rfl : j = m.length := by omega
      have zz := HZ.out
      clear e0 e1 e2 e3 f0 f1 f2 f3 f4 f5 f6 f7 f8 f9 f10 g0 g1 g2 g3 g4 g5 g6 g7 g8 g9 g10 hlg
      replace BX := Lib.hid (BX.out.below zz)
      replace BV := Lib.hid (BV.out.after zz)
      replace BY := Lib.hid (BY.out.after zz)
      replace Z4 := Lib.hid (Z4.out.trans (zz.mono Z4.out.size))
      replace Z := Lib.hid (Z.out.trans (zz.mono Z.out.size))
      have hdl : decide ((m.length : Int) < (m.length : Int)) = false := decide_eq_false (by omega)
      clear zz
      obtain ⟨_, e0, e1, e2, e3⟩ := BX.out
      obtain ⟨f0, f1, f2, f3, f4, f5, f6, f7, f8, f9, f10⟩ := BV.out.cells
      obtain ⟨g0, g1, g2, g3, g4, g5, g6, g7, g8, g9, g10⟩ := BY.out.cells
      have hlg := BY.out.lt
      go_wp2_with fail
      refine (Tells.of (wmay_any (n₀ := _) (x := x) (m := m) (SA := SA) (cs := cs) (HT.out.later Z.out) (HS.out.later Z.out) (Nat.le_refl _) H_hsm.out (by have := H_hok.out.2; omega) rfl) (v' := .bool false) (by rw [H_hm.out])).mono ?_
      rintro _ w4 ⟨rfl, zz⟩
      clear e0 e1 e2 e3 f0 f1 f2 f3 f4 f5 f6 f7 f8 f9 f10 g0 g1 g2 g3 g4 g5 g6 g7 g8 g9 g10 hlg
      replace BX := Lib.hid (BX.out.below zz)
      replace BV := Lib.hid (BV.out.after zz)
      replace BY := Lib.hid (BY.out.after zz)
      replace Z4 := Lib.hid (Z4.out.trans (zz.mono Z4.out.size))
      replace Z := Lib.hid (Z.out.trans (zz.mono Z.out.size))
      clear zz
      obtain ⟨_, e0, e1, e2, e3⟩ := BX.out
      obtain ⟨f0, f1, f2, f3, f4, f5, f6, f7, f8, f9, f10⟩ := BV.out.cells
      obtain ⟨g0, g1, g2, g3, g4, g5, g6, g7, g8, g9, g10⟩ := BY.out.cells
      have hlg := BY.out.lt
      have h00 : cn = 0 := by
        rcases Nat.lt_or_ge cn 1 with c | c
        · omega
        · obtain ⟨k, _, hd⟩ := HR.out.some (by omega); exact absurd rfl hd
      subst h00
      have HZ9 := HZX.out
      subst HZ9
      go_wp2_with fail
      refine (wsame_eq (x := z) (HS.out.later Z.out) (HS1.out.later Z4.out) (by have := H_hok.out.2; omega)).mono ?_
      rintro _ w5 ⟨rfl, zz⟩
      clear e0 e1 e2 e3 f0 f1 f2 f3 f4 f5 f6 f7 f8 f9 f10 g0 g1 g2 g3 g4 g5 g6 g7 g8 g9 g10 hlg
      replace BX := Lib.hid (BX.out.below zz)
      replace BV := Lib.hid (BV.out.after zz)
      replace BY := Lib.hid (BY.out.after zz)
      replace Z4 := Lib.hid (Z4.out.trans (zz.mono Z4.out.size))
      replace Z := Lib.hid (Z.out.trans (zz.mono Z.out.size))
      clear zz
      obtain ⟨_, e0, e1, e2, e3⟩ := BX.out
      obtain ⟨f0, f1, f2, f3, f4, f5, f6, f7, f8, f9, f10⟩ := BV.out.cells
      obtain ⟨g0, g1, g2, g3, g4, g5, g6, g7, g8, g9, g10⟩ := BY.out.cells
      have hlg := BY.out.lt
      go_wp2
      go_ret
      exact ⟨rfl, Z.out⟩
set_option maxHeartbeats 8000000 in
theorem cell_all {W D J S me d : Int} {AT A SA : Option Addr} {ct c cs : Nat} {T : List Fo.Tsk} {x : WkS} {m : List Int} {w : World} (hT : Fo.Tk w.heap.size w AT T) (hTl : T.length ≤ maxLen) (hTk : ∀ y ∈ T, y.2.length ≤ maxLen) (hA : Rd w A m) (hS : Fo.Ir w.heap.size w SA x.stk) (hu : UM m) (hf : UF x.f) (hsp : I x.spins) (hlk : I x.look) (hd : U d) (hme : I me) : Tells 3 #[cf W D J S, .slice AT T.length ct, .slice A m.length c, .int .i64 me, wv x (.slice SA x.stk.length cs), .int .u64 d] w (.bool true) := by
  cases hq : (Fo.few T && decide ((x.stk.length : Int) ≤ 40))
  · exact cell_few hT hTl hTk hA hS hu hf hsp hlk hd hme hq
  by_cases hb : 500 < m.length
  · exact cell_big hT hTl hTk hA hS hu hf hsp hlk hd hme hq hb
  obtain ⟨hq1, hq2⟩ : Fo.few T = true ∧ (x.stk.length : Int) ≤ 40 := by simpa using hq
  have hsm := Fo.few_sm hq1
  have hok : m.length ≤ 500 ∧ x.stk.length ≤ 900 := ⟨by omega, by omega⟩
  cases hm : mayW W D J S T m me x
  · have e := workS_no (d := d) hm
    exact cell_no hT hTl hTk hA hS hu hf hsp hlk hd hme hq hsm hok hm e ⟨0, fun _ h => absurd rfl h⟩ rfl (by simp)
  · have o := stepW_ok (d := d) hm
    have e : workS W D J S T m me x d = ((stepW W D J S T m me x d).1, (stepW W D J S T m me x d).2.1, (stepW W D J S T m me x d).2.2) := by unfold workS; rw [if_pos hm]
    have k := workS_may (d := d) hm
    rw [e] at k
    exact cell_yes hT hTl hTk hA hS hu hf hsp hlk hd hme hq hsm hok hm e o.one o.len o.evs k (stk_le hm hok.2)
end Go.Proofs.YtlpkccpijloidaaGreat
