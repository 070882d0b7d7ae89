/- The walk of WorkSpawns. -/
import Derived.Test.YtlpkccpijloidaaGreatWkL
import Derived.Deep.QuietTactic
import Derived.BigQuiet
namespace Go.Proofs.YtlpkccpijloidaaGreat
set_option maxRecDepth 100000
open Go.RowKit Go.Deep
theorem evx_later {w w' : World} {A : Option Addr} {l : List Evn} (h : Evx.Ir w.heap.size w A l) (hb : Below w.heap.size w w') : Evx.Ir w'.heap.size w' A l := (h.below hb).mono hb.size
attribute [local go_sem ↓] eql_fr guard_fr
set_option maxHeartbeats 8000000 in
theorem spawns_few {W D J S me d : Int} {AT A SA : Option Addr} {ct c cs : Nat} {T : List Fo.Tsk} {x : WkS} {m : List Int} {w : World} (hT : Fo.Tk w.heap.size w AT T) (hTl : T.length ≤ maxLen) (hTk : ∀ y ∈ T, y.2.length ≤ maxLen) (hA : Rd w A m) (hS : Fo.Ir w.heap.size w SA x.stk) (hu : UM m) (hf : UF x.f) (hsp : I x.spins) (hlk : I x.look) (hd : U d) (hme : I me) (hq : (Fo.few T && decide ((x.stk.length : Int) ≤ 40)) = false) : Tells 6 #[cf W D J S, .slice AT T.length ct, .slice A m.length c, .int .i64 me, wv x (.slice SA x.stk.length cs), .int .u64 d] w (.bool true) := by
  have HT := Lib.hid hT
  have HTL := Lib.hid hTl
  have HTK := Lib.hid hTk
  have HA := Lib.hid hA
  have HS := Lib.hid hS
  have HU := Lib.hid hu
  have HF := Lib.hid hf
  have HSP := Lib.hid hsp
  have HLK := Lib.hid hlk
  have HME := Lib.hid hme
  have HDd := Lib.hid hd
  have H_hq := Lib.hid hq
  clear hT hTl hTk hA hS hu hf hsp hlk hme hd hq
  have Z := Lib.hid ((bel_alloc w (.cells #[.int .i64 W, .int .i64 D, .int .i64 J, .int .i64 S] 23)).trans ((bel_alloc (w.alloc (.cells #[.int .i64 W, .int .i64 D, .int .i64 J, .int .i64 S] 23)) (.cells #[.int .i64 x.pc, .slice SA x.stk.length cs, .int .i64 x.f.op, .int .i64 x.f.pc, .int .i64 x.f.who, .int .u64 x.f.val, .int .u64 x.f.x, .int .u64 x.f.y, .int .i64 x.f.res, .int .i64 x.spins, .int .i64 x.look] 32)).mono (by simp)))
  have BX := Lib.hid ((Bx.mk w W D J S 23).below (bel_alloc _ (.cells #[.int .i64 x.pc, .slice SA x.stk.length cs, .int .i64 x.f.op, .int .i64 x.f.pc, .int .i64 x.f.who, .int .u64 x.f.val, .int .u64 x.f.x, .int .u64 x.f.y, .int .i64 x.f.res, .int .i64 x.spins, .int .i64 x.look] 32)))
  have BV := Lib.hid (Wvb.new1 (w.alloc (.cells #[.int .i64 W, .int .i64 D, .int .i64 J, .int .i64 S] 23)) (g := w.heap.size + 1) x (.slice SA x.stk.length cs) (by simp))
  go_enter Tryz.func6, Tryz.ntmps6
  go_wp2_with fail
  refine (wawake_any _).mono ?_
  rintro _ w1 ⟨rfl, zz⟩
  replace BX := Lib.hid (BX.out.below zz)
  replace BV := Lib.hid (BV.out.after zz)
  replace Z := Lib.hid (Z.out.trans (zz.mono Z.out.size))
  clear zz
  obtain ⟨_, e0, e1, e2, e3⟩ := BX.out
  obtain ⟨f0, f1, f2, f3, f4, f5, f6, f7, f8, f9, f10⟩ := BV.out.cells
  go_wp2_with fail
  refine (wfew_any (x := x) (HT.out.later Z.out) HTL.out HTK.out (q := false) H_hq.out).mono ?_
  rintro _ w2 ⟨rfl, zz⟩
  clear e0 e1 e2 e3 f0 f1 f2 f3 f4 f5 f6 f7 f8 f9 f10
  replace BX := Lib.hid (BX.out.below zz)
  replace BV := Lib.hid (BV.out.after zz)
  replace Z := Lib.hid (Z.out.trans (zz.mono Z.out.size))
  clear zz
  obtain ⟨_, e0, e1, e2, e3⟩ := BX.out
  obtain ⟨f0, f1, f2, f3, f4, f5, f6, f7, f8, f9, f10⟩ := BV.out.cells
  go_wp2
  go_ret
  exact ⟨rfl, Z.out⟩
set_option maxHeartbeats 8000000 in
theorem spawns_big {W D J S me d : Int} {AT A SA : Option Addr} {ct c cs : Nat} {T : List Fo.Tsk} {x : WkS} {m : List Int} {w : World} (hT : Fo.Tk w.heap.size w AT T) (hTl : T.length ≤ maxLen) (hTk : ∀ y ∈ T, y.2.length ≤ maxLen) (hA : Rd w A m) (hS : Fo.Ir w.heap.size w SA x.stk) (hu : UM m) (hf : UF x.f) (hsp : I x.spins) (hlk : I x.look) (hd : U d) (hme : I me) (hq : (Fo.few T && decide ((x.stk.length : Int) ≤ 40)) = true) (hb : 500 < m.length) : Tells 6 #[cf W D J S, .slice AT T.length ct, .slice A m.length c, .int .i64 me, wv x (.slice SA x.stk.length cs), .int .u64 d] w (.bool true) := by
  have hd5 : decide ((500 : Int) < (m.length : Int)) = true := decide_eq_true (by omega)
  have HT := Lib.hid hT
  have HTL := Lib.hid hTl
  have HTK := Lib.hid hTk
  have HA := Lib.hid hA
  have HS := Lib.hid hS
  have HU := Lib.hid hu
  have HF := Lib.hid hf
  have HSP := Lib.hid hsp
  have HLK := Lib.hid hlk
  have HME := Lib.hid hme
  have HDd := Lib.hid hd
  have H_hq := Lib.hid hq
  clear hT hTl hTk hA hS hu hf hsp hlk hme hd hq
  have Z := Lib.hid ((bel_alloc w (.cells #[.int .i64 W, .int .i64 D, .int .i64 J, .int .i64 S] 23)).trans ((bel_alloc (w.alloc (.cells #[.int .i64 W, .int .i64 D, .int .i64 J, .int .i64 S] 23)) (.cells #[.int .i64 x.pc, .slice SA x.stk.length cs, .int .i64 x.f.op, .int .i64 x.f.pc, .int .i64 x.f.who, .int .u64 x.f.val, .int .u64 x.f.x, .int .u64 x.f.y, .int .i64 x.f.res, .int .i64 x.spins, .int .i64 x.look] 32)).mono (by simp)))
  have BX := Lib.hid ((Bx.mk w W D J S 23).below (bel_alloc _ (.cells #[.int .i64 x.pc, .slice SA x.stk.length cs, .int .i64 x.f.op, .int .i64 x.f.pc, .int .i64 x.f.who, .int .u64 x.f.val, .int .u64 x.f.x, .int .u64 x.f.y, .int .i64 x.f.res, .int .i64 x.spins, .int .i64 x.look] 32)))
  have BV := Lib.hid (Wvb.new1 (w.alloc (.cells #[.int .i64 W, .int .i64 D, .int .i64 J, .int .i64 S] 23)) (g := w.heap.size + 1) x (.slice SA x.stk.length cs) (by simp))
  go_enter Tryz.func6, Tryz.ntmps6
  go_wp2_with fail
  refine (wawake_any _).mono ?_
  rintro _ w1 ⟨rfl, zz⟩
  replace BX := Lib.hid (BX.out.below zz)
  replace BV := Lib.hid (BV.out.after zz)
  replace Z := Lib.hid (Z.out.trans (zz.mono Z.out.size))
  clear zz
  obtain ⟨_, e0, e1, e2, e3⟩ := BX.out
  obtain ⟨f0, f1, f2, f3, f4, f5, f6, f7, f8, f9, f10⟩ := BV.out.cells
  go_wp2_with fail
  refine (wfew_any (x := x) (HT.out.later Z.out) HTL.out HTK.out (q := true) H_hq.out).mono ?_
  rintro _ w2 ⟨rfl, zz⟩
  clear e0 e1 e2 e3 f0 f1 f2 f3 f4 f5 f6 f7 f8 f9 f10
  replace BX := Lib.hid (BX.out.below zz)
  replace BV := Lib.hid (BV.out.after zz)
  replace Z := Lib.hid (Z.out.trans (zz.mono Z.out.size))
  clear zz
  obtain ⟨_, e0, e1, e2, e3⟩ := BX.out
  obtain ⟨f0, f1, f2, f3, f4, f5, f6, f7, f8, f9, f10⟩ := BV.out.cells
  go_wp2
  go_ret
  exact ⟨rfl, Z.out⟩
set_option maxHeartbeats 8000000 in
theorem spawns_not {W D J S me d : Int} {AT A SA : Option Addr} {ct c cs : Nat} {T : List Fo.Tsk} {x : WkS} {m : List Int} {w : World} (hT : Fo.Tk w.heap.size w AT T) (hTl : T.length ≤ maxLen) (hTk : ∀ y ∈ T, y.2.length ≤ maxLen) (hA : Rd w A m) (hS : Fo.Ir w.heap.size w SA x.stk) (hu : UM m) (hf : UF x.f) (hsp : I x.spins) (hlk : I x.look) (hd : U d) (hme : I me) (hq : (Fo.few T && decide ((x.stk.length : Int) ≤ 40)) = true) (hsm : Fo.Sm T) (hok : m.length ≤ 500 ∧ x.stk.length ≤ 900) (hm : mayW W D J S T m me x = false) : Tells 6 #[cf W D J S, .slice AT T.length ct, .slice A m.length c, .int .i64 me, wv x (.slice SA x.stk.length cs), .int .u64 d] w (.bool true) := by
  have hd5 : decide ((500 : Int) < (m.length : Int)) = false := decide_eq_false (by omega)
  have HT := Lib.hid hT
  have HTL := Lib.hid hTl
  have HTK := Lib.hid hTk
  have HA := Lib.hid hA
  have HS := Lib.hid hS
  have HU := Lib.hid hu
  have HF := Lib.hid hf
  have HSP := Lib.hid hsp
  have HLK := Lib.hid hlk
  have HME := Lib.hid hme
  have HDd := Lib.hid hd
  have H_hq := Lib.hid hq
  have H_hsm := Lib.hid hsm
  have H_hok := Lib.hid hok
  have H_hm := Lib.hid hm
  clear hT hTl hTk hA hS hu hf hsp hlk hme hd hq hsm hok hm
  have Z := Lib.hid ((bel_alloc w (.cells #[.int .i64 W, .int .i64 D, .int .i64 J, .int .i64 S] 23)).trans ((bel_alloc (w.alloc (.cells #[.int .i64 W, .int .i64 D, .int .i64 J, .int .i64 S] 23)) (.cells #[.int .i64 x.pc, .slice SA x.stk.length cs, .int .i64 x.f.op, .int .i64 x.f.pc, .int .i64 x.f.who, .int .u64 x.f.val, .int .u64 x.f.x, .int .u64 x.f.y, .int .i64 x.f.res, .int .i64 x.spins, .int .i64 x.look] 32)).mono (by simp)))
  have BX := Lib.hid ((Bx.mk w W D J S 23).below (bel_alloc _ (.cells #[.int .i64 x.pc, .slice SA x.stk.length cs, .int .i64 x.f.op, .int .i64 x.f.pc, .int .i64 x.f.who, .int .u64 x.f.val, .int .u64 x.f.x, .int .u64 x.f.y, .int .i64 x.f.res, .int .i64 x.spins, .int .i64 x.look] 32)))
  have BV := Lib.hid (Wvb.new1 (w.alloc (.cells #[.int .i64 W, .int .i64 D, .int .i64 J, .int .i64 S] 23)) (g := w.heap.size + 1) x (.slice SA x.stk.length cs) (by simp))
  go_enter Tryz.func6, Tryz.ntmps6
  go_wp2_with fail
  refine (wawake_any _).mono ?_
  rintro _ w1 ⟨rfl, zz⟩
  replace BX := Lib.hid (BX.out.below zz)
  replace BV := Lib.hid (BV.out.after zz)
  replace Z := Lib.hid (Z.out.trans (zz.mono Z.out.size))
  clear zz
  obtain ⟨_, e0, e1, e2, e3⟩ := BX.out
  obtain ⟨f0, f1, f2, f3, f4, f5, f6, f7, f8, f9, f10⟩ := BV.out.cells
  go_wp2_with fail
  refine (wfew_any (x := x) (HT.out.later Z.out) HTL.out HTK.out (q := true) H_hq.out).mono ?_
  rintro _ w2 ⟨rfl, zz⟩
  clear e0 e1 e2 e3 f0 f1 f2 f3 f4 f5 f6 f7 f8 f9 f10
  replace BX := Lib.hid (BX.out.below zz)
  replace BV := Lib.hid (BV.out.after zz)
  replace Z := Lib.hid (Z.out.trans (zz.mono Z.out.size))
  clear zz
  obtain ⟨_, e0, e1, e2, e3⟩ := BX.out
  obtain ⟨f0, f1, f2, f3, f4, f5, f6, f7, f8, f9, f10⟩ := BV.out.cells
  go_wp2_with fail
  refine (Tells.of (wmay_any (n₀ := _) (x := x) (m := m) (SA := SA) (cs := cs) (HT.out.later Z.out) (HS.out.later Z.out) (Nat.le_refl _) H_hsm.out (by have := H_hok.out.2; omega) rfl) (v' := .bool false) (by rw [H_hm.out])).mono ?_
  rintro _ w3 ⟨rfl, zz⟩
  clear e0 e1 e2 e3 f0 f1 f2 f3 f4 f5 f6 f7 f8 f9 f10
  replace BX := Lib.hid (BX.out.below zz)
  replace BV := Lib.hid (BV.out.after zz)
  replace Z := Lib.hid (Z.out.trans (zz.mono Z.out.size))
  clear zz
  obtain ⟨_, e0, e1, e2, e3⟩ := BX.out
  obtain ⟨f0, f1, f2, f3, f4, f5, f6, f7, f8, f9, f10⟩ := BV.out.cells
  go_wp2
  go_ret
  exact ⟨rfl, Z.out⟩
set_option maxHeartbeats 8000000 in
theorem spawns_a {W D J S me d : Int} {AT A SA : Option Addr} {ct c cs : Nat} {T : List Fo.Tsk} {x : WkS} {m : List Int} {w : World} (hT : Fo.Tk w.heap.size w AT T) (hTl : T.length ≤ maxLen) (hTk : ∀ y ∈ T, y.2.length ≤ maxLen) (hA : Rd w A m) (hS : Fo.Ir w.heap.size w SA x.stk) (hu : UM m) (hf : UF x.f) (hsp : I x.spins) (hlk : I x.look) (hd : U d) (hme : I me) (hq : (Fo.few T && decide ((x.stk.length : Int) ≤ 40)) = true) (hsm : Fo.Sm T) (hok : m.length ≤ 500 ∧ x.stk.length ≤ 900) (hm : mayW W D J S T m me x = true) {m' : List Int} {z : WkS} {l' : List Evn} (hw : workS W D J S T m me x d = (m', z, l')) (hp : x.pc = 10) {tk : Int} (hl : l' = [(3, tk, me)]) (hz : z.pc = 11) {u : Int} (hu2 : IntKind.u64.wrap tk = u) (hzf : z.f = fbg 0 me u) : Tells 6 #[cf W D J S, .slice AT T.length ct, .slice A m.length c, .int .i64 me, wv x (.slice SA x.stk.length cs), .int .u64 d] w (.bool true) := by
  have hd5 : decide ((500 : Int) < (m.length : Int)) = false := decide_eq_false (by omega)
  subst hl
  obtain ⟨zp, zs, zf, zsp, zlk⟩ := z
  simp only at hz hzf
  subst hz hzf
  obtain ⟨z, hzz⟩ : ∃ z : WkS, z = ⟨11, zs, fbg 0 me u, zsp, zlk⟩ := ⟨_, rfl⟩
  rw [← hzz] at hw
  have HZZ := Lib.hid hzz
  clear hzz
  have HT := Lib.hid hT
  have HTL := Lib.hid hTl
  have HTK := Lib.hid hTk
  have HA := Lib.hid hA
  have HS := Lib.hid hS
  have HU := Lib.hid hu
  have HF := Lib.hid hf
  have HSP := Lib.hid hsp
  have HLK := Lib.hid hlk
  have HME := Lib.hid hme
  have HDd := Lib.hid hd
  have H_hq := Lib.hid hq
  have H_hsm := Lib.hid hsm
  have H_hok := Lib.hid hok
  have H_hm := Lib.hid hm
  have H_hw := Lib.hid hw
  have H_hp := Lib.hid hp
  clear hT hTl hTk hA hS hu hf hsp hlk hme hd hq hsm hok hm hw hp
  have Z := Lib.hid ((bel_alloc w (.cells #[.int .i64 W, .int .i64 D, .int .i64 J, .int .i64 S] 23)).trans ((bel_alloc (w.alloc (.cells #[.int .i64 W, .int .i64 D, .int .i64 J, .int .i64 S] 23)) (.cells #[.int .i64 x.pc, .slice SA x.stk.length cs, .int .i64 x.f.op, .int .i64 x.f.pc, .int .i64 x.f.who, .int .u64 x.f.val, .int .u64 x.f.x, .int .u64 x.f.y, .int .i64 x.f.res, .int .i64 x.spins, .int .i64 x.look] 32)).mono (by simp)))
  have BX := Lib.hid ((Bx.mk w W D J S 23).below (bel_alloc _ (.cells #[.int .i64 x.pc, .slice SA x.stk.length cs, .int .i64 x.f.op, .int .i64 x.f.pc, .int .i64 x.f.who, .int .u64 x.f.val, .int .u64 x.f.x, .int .u64 x.f.y, .int .i64 x.f.res, .int .i64 x.spins, .int .i64 x.look] 32)))
  have BV := Lib.hid (Wvb.new1 (w.alloc (.cells #[.int .i64 W, .int .i64 D, .int .i64 J, .int .i64 S] 23)) (g := w.heap.size + 1) x (.slice SA x.stk.length cs) (by simp))
  go_enter Tryz.func6, Tryz.ntmps6
  go_wp2_with fail
  refine (wawake_any _).mono ?_
  rintro _ w1 ⟨rfl, zz⟩
  replace BX := Lib.hid (BX.out.below zz)
  replace BV := Lib.hid (BV.out.after zz)
  replace Z := Lib.hid (Z.out.trans (zz.mono Z.out.size))
  clear zz
  obtain ⟨_, e0, e1, e2, e3⟩ := BX.out
  obtain ⟨f0, f1, f2, f3, f4, f5, f6, f7, f8, f9, f10⟩ := BV.out.cells
  go_wp2_with fail
  refine (wfew_any (x := x) (HT.out.later Z.out) HTL.out HTK.out (q := true) H_hq.out).mono ?_
  rintro _ w2 ⟨rfl, zz⟩
  clear e0 e1 e2 e3 f0 f1 f2 f3 f4 f5 f6 f7 f8 f9 f10
  replace BX := Lib.hid (BX.out.below zz)
  replace BV := Lib.hid (BV.out.after zz)
  replace Z := Lib.hid (Z.out.trans (zz.mono Z.out.size))
  clear zz
  obtain ⟨_, e0, e1, e2, e3⟩ := BX.out
  obtain ⟨f0, f1, f2, f3, f4, f5, f6, f7, f8, f9, f10⟩ := BV.out.cells
  go_wp2_with fail
  refine (Tells.of (wmay_any (n₀ := _) (x := x) (m := m) (SA := SA) (cs := cs) (HT.out.later Z.out) (HS.out.later Z.out) (Nat.le_refl _) H_hsm.out (by have := H_hok.out.2; omega) rfl) (v' := .bool true) (by rw [H_hm.out])).mono ?_
  rintro _ w3 ⟨rfl, zz⟩
  clear e0 e1 e2 e3 f0 f1 f2 f3 f4 f5 f6 f7 f8 f9 f10
  replace BX := Lib.hid (BX.out.below zz)
  replace BV := Lib.hid (BV.out.after zz)
  replace Z := Lib.hid (Z.out.trans (zz.mono Z.out.size))
  clear zz
  obtain ⟨_, e0, e1, e2, e3⟩ := BX.out
  obtain ⟨f0, f1, f2, f3, f4, f5, f6, f7, f8, f9, f10⟩ := BV.out.cells
  go_wp2_with fail
  refine (wstep_n (HT.out.later Z.out) (HA.out.below Z.out) (HS.out.later Z.out) H_hsm.out H_hok.out HU.out HF.out HSP.out HLK.out HDd.out HME.out rfl H_hw.out).mono ?_
  rintro _ w4 ⟨A1, c1, S1, s1, E1, ce1, rfl, r1, r2, r3, zz⟩
  have HM1 := Lib.hid r1
  have HS1 := Lib.hid r2
  have HE1 := Lib.hid r3
  clear r1 r2 r3
  clear e0 e1 e2 e3 f0 f1 f2 f3 f4 f5 f6 f7 f8 f9 f10
  replace BX := Lib.hid (BX.out.below zz)
  replace BV := Lib.hid (BV.out.after zz)
  replace Z := Lib.hid (Z.out.trans (zz.mono Z.out.size))
  clear zz
  obtain ⟨_, e0, e1, e2, e3⟩ := BX.out
  obtain ⟨f0, f1, f2, f3, f4, f5, f6, f7, f8, f9, f10⟩ := BV.out.cells
  go_upto_region 6 with fail
  clear e0 e1 e2 e3 f0 f1 f2 f3 f4 f5 f6 f7 f8 f9 f10
  have zz := bel_alloc w4 (.cells #[.int .i64 z.pc, .slice S1 z.stk.length s1, .int .i64 z.f.op, .int .i64 z.f.pc, .int .i64 z.f.who, .int .u64 z.f.val, .int .u64 z.f.x, .int .u64 z.f.y, .int .i64 z.f.res, .int .i64 z.spins, .int .i64 z.look] 32)
  replace BX := Lib.hid (BX.out.below zz)
  replace BV := Lib.hid (BV.out.after zz)
  have BY := Lib.hid (Wvb.new w4 z (.slice S1 z.stk.length s1))
  replace HM1 := Lib.hid (HM1.out.below zz)
  replace HS1 := Lib.hid (HS1.out.later zz)
  replace HE1 := Lib.hid (evx_later HE1.out zz)
  replace Z := Lib.hid (Z.out.trans (zz.mono Z.out.size))
  clear zz
  have hgx1 : w4.heap.size = w4.heap.size := rfl
  generalize hv1 : w4.alloc (.cells #[.int .i64 z.pc, .slice S1 z.stk.length s1, .int .i64 z.f.op, .int .i64 z.f.pc, .int .i64 z.f.who, .int .u64 z.f.val, .int .u64 z.f.x, .int .u64 z.f.y, .int .i64 z.f.res, .int .i64 z.spins, .int .i64 z.look] 32) = v1 at *
  generalize w4.heap.size = g1 at *
  clear hv1 hgx1
  have Z4 := Lib.hid (Below.refl v1.heap.size v1)
  obtain ⟨_, e0, e1, e2, e3⟩ := BX.out
  obtain ⟨f0, f1, f2, f3, f4, f5, f6, f7, f8, f9, f10⟩ := BV.out.cells
  obtain ⟨g0, g1, g2, g3, g4, g5, g6, g7, g8, g9, g10⟩ := BY.out.cells
  have hlg := BY.out.lt
  have hp := H_hp.out
  have hz3 := HZZ.out
  subst hz3
  simp only [fbg] at g0 g1 g2 g3 g4 g5 g6 g7 g8 g9 g10
  have hee := HE1.out
  obtain ⟨bE, oE, rfl, hbE, q0, q1, q2⟩ := hee.at (i := 0) (by simp)
  simp only [Nat.zero_mul, Nat.add_zero, List.getElem_cons_zero] at q0 q1 q2
  clear hee
  go_wp2_with fail
  go_quiet (fail)
  go_wp2
  go_ret
  exact ⟨rfl, Z.out.trans ((below_drewN _ _).mono Z.out.size)⟩
set_option maxHeartbeats 8000000 in
theorem spawns_b {W D J S me d : Int} {AT A SA : Option Addr} {ct c cs : Nat} {T : List Fo.Tsk} {x : WkS} {m : List Int} {w : World} (hT : Fo.Tk w.heap.size w AT T) (hTl : T.length ≤ maxLen) (hTk : ∀ y ∈ T, y.2.length ≤ maxLen) (hA : Rd w A m) (hS : Fo.Ir w.heap.size w SA x.stk) (hu : UM m) (hf : UF x.f) (hsp : I x.spins) (hlk : I x.look) (hd : U d) (hme : I me) (hq : (Fo.few T && decide ((x.stk.length : Int) ≤ 40)) = true) (hsm : Fo.Sm T) (hok : m.length ≤ 500 ∧ x.stk.length ≤ 900) (hm : mayW W D J S T m me x = true) {m' : List Int} {z : WkS} {l' : List Evn} (hw : workS W D J S T m me x d = (m', z, l')) (hp : x.pc = 11) (hl : l' = []) (hz : z.pc = 12) (h3 : z.f.op = 3) (h4 : z.f.who = me) (h5 : z.f.pc = 0) : Tells 6 #[cf W D J S, .slice AT T.length ct, .slice A m.length c, .int .i64 me, wv x (.slice SA x.stk.length cs), .int .u64 d] w (.bool true) := by
  have hd5 : decide ((500 : Int) < (m.length : Int)) = false := decide_eq_false (by omega)
  subst hl
  have HT := Lib.hid hT
  have HTL := Lib.hid hTl
  have HTK := Lib.hid hTk
  have HA := Lib.hid hA
  have HS := Lib.hid hS
  have HU := Lib.hid hu
  have HF := Lib.hid hf
  have HSP := Lib.hid hsp
  have HLK := Lib.hid hlk
  have HME := Lib.hid hme
  have HDd := Lib.hid hd
  have H_hq := Lib.hid hq
  have H_hsm := Lib.hid hsm
  have H_hok := Lib.hid hok
  have H_hm := Lib.hid hm
  have H_hw := Lib.hid hw
  have H_hp := Lib.hid hp
  have H_hz := Lib.hid hz
  have H_h3 := Lib.hid h3
  have H_h4 := Lib.hid h4
  have H_h5 := Lib.hid h5
  clear hT hTl hTk hA hS hu hf hsp hlk hme hd hq hsm hok hm hw hp hz h3 h4 h5
  have Z := Lib.hid ((bel_alloc w (.cells #[.int .i64 W, .int .i64 D, .int .i64 J, .int .i64 S] 23)).trans ((bel_alloc (w.alloc (.cells #[.int .i64 W, .int .i64 D, .int .i64 J, .int .i64 S] 23)) (.cells #[.int .i64 x.pc, .slice SA x.stk.length cs, .int .i64 x.f.op, .int .i64 x.f.pc, .int .i64 x.f.who, .int .u64 x.f.val, .int .u64 x.f.x, .int .u64 x.f.y, .int .i64 x.f.res, .int .i64 x.spins, .int .i64 x.look] 32)).mono (by simp)))
  have BX := Lib.hid ((Bx.mk w W D J S 23).below (bel_alloc _ (.cells #[.int .i64 x.pc, .slice SA x.stk.length cs, .int .i64 x.f.op, .int .i64 x.f.pc, .int .i64 x.f.who, .int .u64 x.f.val, .int .u64 x.f.x, .int .u64 x.f.y, .int .i64 x.f.res, .int .i64 x.spins, .int .i64 x.look] 32)))
  have BV := Lib.hid (Wvb.new1 (w.alloc (.cells #[.int .i64 W, .int .i64 D, .int .i64 J, .int .i64 S] 23)) (g := w.heap.size + 1) x (.slice SA x.stk.length cs) (by simp))
  go_enter Tryz.func6, Tryz.ntmps6
  go_wp2_with fail
  refine (wawake_any _).mono ?_
  rintro _ w1 ⟨rfl, zz⟩
  replace BX := Lib.hid (BX.out.below zz)
  replace BV := Lib.hid (BV.out.after zz)
  replace Z := Lib.hid (Z.out.trans (zz.mono Z.out.size))
  clear zz
  obtain ⟨_, e0, e1, e2, e3⟩ := BX.out
  obtain ⟨f0, f1, f2, f3, f4, f5, f6, f7, f8, f9, f10⟩ := BV.out.cells
  go_wp2_with fail
  refine (wfew_any (x := x) (HT.out.later Z.out) HTL.out HTK.out (q := true) H_hq.out).mono ?_
  rintro _ w2 ⟨rfl, zz⟩
  clear e0 e1 e2 e3 f0 f1 f2 f3 f4 f5 f6 f7 f8 f9 f10
  replace BX := Lib.hid (BX.out.below zz)
  replace BV := Lib.hid (BV.out.after zz)
  replace Z := Lib.hid (Z.out.trans (zz.mono Z.out.size))
  clear zz
  obtain ⟨_, e0, e1, e2, e3⟩ := BX.out
  obtain ⟨f0, f1, f2, f3, f4, f5, f6, f7, f8, f9, f10⟩ := BV.out.cells
  go_wp2_with fail
  refine (Tells.of (wmay_any (n₀ := _) (x := x) (m := m) (SA := SA) (cs := cs) (HT.out.later Z.out) (HS.out.later Z.out) (Nat.le_refl _) H_hsm.out (by have := H_hok.out.2; omega) rfl) (v' := .bool true) (by rw [H_hm.out])).mono ?_
  rintro _ w3 ⟨rfl, zz⟩
  clear e0 e1 e2 e3 f0 f1 f2 f3 f4 f5 f6 f7 f8 f9 f10
  replace BX := Lib.hid (BX.out.below zz)
  replace BV := Lib.hid (BV.out.after zz)
  replace Z := Lib.hid (Z.out.trans (zz.mono Z.out.size))
  clear zz
  obtain ⟨_, e0, e1, e2, e3⟩ := BX.out
  obtain ⟨f0, f1, f2, f3, f4, f5, f6, f7, f8, f9, f10⟩ := BV.out.cells
  go_wp2_with fail
  refine (wstep_n (HT.out.later Z.out) (HA.out.below Z.out) (HS.out.later Z.out) H_hsm.out H_hok.out HU.out HF.out HSP.out HLK.out HDd.out HME.out rfl H_hw.out).mono ?_
  rintro _ w4 ⟨A1, c1, S1, s1, E1, ce1, rfl, r1, r2, r3, zz⟩
  have HM1 := Lib.hid r1
  have HS1 := Lib.hid r2
  have HE1 := Lib.hid r3
  clear r1 r2 r3
  clear e0 e1 e2 e3 f0 f1 f2 f3 f4 f5 f6 f7 f8 f9 f10
  replace BX := Lib.hid (BX.out.below zz)
  replace BV := Lib.hid (BV.out.after zz)
  replace Z := Lib.hid (Z.out.trans (zz.mono Z.out.size))
  clear zz
  obtain ⟨_, e0, e1, e2, e3⟩ := BX.out
  obtain ⟨f0, f1, f2, f3, f4, f5, f6, f7, f8, f9, f10⟩ := BV.out.cells
  go_upto_region 6 with fail
  clear e0 e1 e2 e3 f0 f1 f2 f3 f4 f5 f6 f7 f8 f9 f10
  have zz := bel_alloc w4 (.cells #[.int .i64 z.pc, .slice S1 z.stk.length s1, .int .i64 z.f.op, .int .i64 z.f.pc, .int .i64 z.f.who, .int .u64 z.f.val, .int .u64 z.f.x, .int .u64 z.f.y, .int .i64 z.f.res, .int .i64 z.spins, .int .i64 z.look] 32)
  replace BX := Lib.hid (BX.out.below zz)
  replace BV := Lib.hid (BV.out.after zz)
  have BY := Lib.hid (Wvb.new w4 z (.slice S1 z.stk.length s1))
  replace HM1 := Lib.hid (HM1.out.below zz)
  replace HS1 := Lib.hid (HS1.out.later zz)
  replace HE1 := Lib.hid (evx_later HE1.out zz)
  replace Z := Lib.hid (Z.out.trans (zz.mono Z.out.size))
  clear zz
  have hgx1 : w4.heap.size = w4.heap.size := rfl
  generalize hv1 : w4.alloc (.cells #[.int .i64 z.pc, .slice S1 z.stk.length s1, .int .i64 z.f.op, .int .i64 z.f.pc, .int .i64 z.f.who, .int .u64 z.f.val, .int .u64 z.f.x, .int .u64 z.f.y, .int .i64 z.f.res, .int .i64 z.spins, .int .i64 z.look] 32) = v1 at *
  generalize w4.heap.size = g1 at *
  clear hv1 hgx1
  have Z4 := Lib.hid (Below.refl v1.heap.size v1)
  obtain ⟨_, e0, e1, e2, e3⟩ := BX.out
  obtain ⟨f0, f1, f2, f3, f4, f5, f6, f7, f8, f9, f10⟩ := BV.out.cells
  obtain ⟨g0, g1, g2, g3, g4, g5, g6, g7, g8, g9, g10⟩ := BY.out.cells
  have hlg := BY.out.lt
  have hp := H_hp.out
  have hz := H_hz.out
  have h3 := H_h3.out
  have h4 := H_h4.out
  have h5 := H_h5.out
  go_wp2
  go_ret
  exact ⟨rfl, Z.out⟩
set_option maxHeartbeats 8000000 in
theorem spawns_c {W D J S me d : Int} {AT A SA : Option Addr} {ct c cs : Nat} {T : List Fo.Tsk} {x : WkS} {m : List Int} {w : World} (hT : Fo.Tk w.heap.size w AT T) (hTl : T.length ≤ maxLen) (hTk : ∀ y ∈ T, y.2.length ≤ maxLen) (hA : Rd w A m) (hS : Fo.Ir w.heap.size w SA x.stk) (hu : UM m) (hf : UF x.f) (hsp : I x.spins) (hlk : I x.look) (hd : U d) (hme : I me) (hq : (Fo.few T && decide ((x.stk.length : Int) ≤ 40)) = true) (hsm : Fo.Sm T) (hok : m.length ≤ 500 ∧ x.stk.length ≤ 900) (hm : mayW W D J S T m me x = true) {m' : List Int} {z : WkS} {l' : List Evn} (hw : workS W D J S T m me x d = (m', z, l')) (hp : x.pc = 12) {tk : Int} (hl : l' = [(2, tk, me)]) (hz : z.pc = 9) (h3 : x.stk.length ≤ z.stk.length) : Tells 6 #[cf W D J S, .slice AT T.length ct, .slice A m.length c, .int .i64 me, wv x (.slice SA x.stk.length cs), .int .u64 d] w (.bool true) := by
  have hd5 : decide ((500 : Int) < (m.length : Int)) = false := decide_eq_false (by omega)
  subst hl
  have HT := Lib.hid hT
  have HTL := Lib.hid hTl
  have HTK := Lib.hid hTk
  have HA := Lib.hid hA
  have HS := Lib.hid hS
  have HU := Lib.hid hu
  have HF := Lib.hid hf
  have HSP := Lib.hid hsp
  have HLK := Lib.hid hlk
  have HME := Lib.hid hme
  have HDd := Lib.hid hd
  have H_hq := Lib.hid hq
  have H_hsm := Lib.hid hsm
  have H_hok := Lib.hid hok
  have H_hm := Lib.hid hm
  have H_hw := Lib.hid hw
  have H_hp := Lib.hid hp
  have H_hz := Lib.hid hz
  have H_h3 := Lib.hid h3
  clear hT hTl hTk hA hS hu hf hsp hlk hme hd hq hsm hok hm hw hp hz h3
  have Z := Lib.hid ((bel_alloc w (.cells #[.int .i64 W, .int .i64 D, .int .i64 J, .int .i64 S] 23)).trans ((bel_alloc (w.alloc (.cells #[.int .i64 W, .int .i64 D, .int .i64 J, .int .i64 S] 23)) (.cells #[.int .i64 x.pc, .slice SA x.stk.length cs, .int .i64 x.f.op, .int .i64 x.f.pc, .int .i64 x.f.who, .int .u64 x.f.val, .int .u64 x.f.x, .int .u64 x.f.y, .int .i64 x.f.res, .int .i64 x.spins, .int .i64 x.look] 32)).mono (by simp)))
  have BX := Lib.hid ((Bx.mk w W D J S 23).below (bel_alloc _ (.cells #[.int .i64 x.pc, .slice SA x.stk.length cs, .int .i64 x.f.op, .int .i64 x.f.pc, .int .i64 x.f.who, .int .u64 x.f.val, .int .u64 x.f.x, .int .u64 x.f.y, .int .i64 x.f.res, .int .i64 x.spins, .int .i64 x.look] 32)))
  have BV := Lib.hid (Wvb.new1 (w.alloc (.cells #[.int .i64 W, .int .i64 D, .int .i64 J, .int .i64 S] 23)) (g := w.heap.size + 1) x (.slice SA x.stk.length cs) (by simp))
  go_enter Tryz.func6, Tryz.ntmps6
  go_wp2_with fail
  refine (wawake_any _).mono ?_
  rintro _ w1 ⟨rfl, zz⟩
  replace BX := Lib.hid (BX.out.below zz)
  replace BV := Lib.hid (BV.out.after zz)
  replace Z := Lib.hid (Z.out.trans (zz.mono Z.out.size))
  clear zz
  obtain ⟨_, e0, e1, e2, e3⟩ := BX.out
  obtain ⟨f0, f1, f2, f3, f4, f5, f6, f7, f8, f9, f10⟩ := BV.out.cells
  go_wp2_with fail
  refine (wfew_any (x := x) (HT.out.later Z.out) HTL.out HTK.out (q := true) H_hq.out).mono ?_
  rintro _ w2 ⟨rfl, zz⟩
  clear e0 e1 e2 e3 f0 f1 f2 f3 f4 f5 f6 f7 f8 f9 f10
  replace BX := Lib.hid (BX.out.below zz)
  replace BV := Lib.hid (BV.out.after zz)
  replace Z := Lib.hid (Z.out.trans (zz.mono Z.out.size))
  clear zz
  obtain ⟨_, e0, e1, e2, e3⟩ := BX.out
  obtain ⟨f0, f1, f2, f3, f4, f5, f6, f7, f8, f9, f10⟩ := BV.out.cells
  go_wp2_with fail
  refine (Tells.of (wmay_any (n₀ := _) (x := x) (m := m) (SA := SA) (cs := cs) (HT.out.later Z.out) (HS.out.later Z.out) (Nat.le_refl _) H_hsm.out (by have := H_hok.out.2; omega) rfl) (v' := .bool true) (by rw [H_hm.out])).mono ?_
  rintro _ w3 ⟨rfl, zz⟩
  clear e0 e1 e2 e3 f0 f1 f2 f3 f4 f5 f6 f7 f8 f9 f10
  replace BX := Lib.hid (BX.out.below zz)
  replace BV := Lib.hid (BV.out.after zz)
  replace Z := Lib.hid (Z.out.trans (zz.mono Z.out.size))
  clear zz
  obtain ⟨_, e0, e1, e2, e3⟩ := BX.out
  obtain ⟨f0, f1, f2, f3, f4, f5, f6, f7, f8, f9, f10⟩ := BV.out.cells
  go_wp2_with fail
  refine (wstep_n (HT.out.later Z.out) (HA.out.below Z.out) (HS.out.later Z.out) H_hsm.out H_hok.out HU.out HF.out HSP.out HLK.out HDd.out HME.out rfl H_hw.out).mono ?_
  rintro _ w4 ⟨A1, c1, S1, s1, E1, ce1, rfl, r1, r2, r3, zz⟩
  have HM1 := Lib.hid r1
  have HS1 := Lib.hid r2
  have HE1 := Lib.hid r3
  clear r1 r2 r3
  clear e0 e1 e2 e3 f0 f1 f2 f3 f4 f5 f6 f7 f8 f9 f10
  replace BX := Lib.hid (BX.out.below zz)
  replace BV := Lib.hid (BV.out.after zz)
  replace Z := Lib.hid (Z.out.trans (zz.mono Z.out.size))
  clear zz
  obtain ⟨_, e0, e1, e2, e3⟩ := BX.out
  obtain ⟨f0, f1, f2, f3, f4, f5, f6, f7, f8, f9, f10⟩ := BV.out.cells
  go_upto_region 6 with fail
  clear e0 e1 e2 e3 f0 f1 f2 f3 f4 f5 f6 f7 f8 f9 f10
  have zz := bel_alloc w4 (.cells #[.int .i64 z.pc, .slice S1 z.stk.length s1, .int .i64 z.f.op, .int .i64 z.f.pc, .int .i64 z.f.who, .int .u64 z.f.val, .int .u64 z.f.x, .int .u64 z.f.y, .int .i64 z.f.res, .int .i64 z.spins, .int .i64 z.look] 32)
  replace BX := Lib.hid (BX.out.below zz)
  replace BV := Lib.hid (BV.out.after zz)
  have BY := Lib.hid (Wvb.new w4 z (.slice S1 z.stk.length s1))
  replace HM1 := Lib.hid (HM1.out.below zz)
  replace HS1 := Lib.hid (HS1.out.later zz)
  replace HE1 := Lib.hid (evx_later HE1.out zz)
  replace Z := Lib.hid (Z.out.trans (zz.mono Z.out.size))
  clear zz
  have hgx1 : w4.heap.size = w4.heap.size := rfl
  generalize hv1 : w4.alloc (.cells #[.int .i64 z.pc, .slice S1 z.stk.length s1, .int .i64 z.f.op, .int .i64 z.f.pc, .int .i64 z.f.who, .int .u64 z.f.val, .int .u64 z.f.x, .int .u64 z.f.y, .int .i64 z.f.res, .int .i64 z.spins, .int .i64 z.look] 32) = v1 at *
  generalize w4.heap.size = g1 at *
  clear hv1 hgx1
  have Z4 := Lib.hid (Below.refl v1.heap.size v1)
  obtain ⟨_, e0, e1, e2, e3⟩ := BX.out
  obtain ⟨f0, f1, f2, f3, f4, f5, f6, f7, f8, f9, f10⟩ := BV.out.cells
  obtain ⟨g0, g1, g2, g3, g4, g5, g6, g7, g8, g9, g10⟩ := BY.out.cells
  have hlg := BY.out.lt
  have hp := H_hp.out
  have hz := H_hz.out
  have hee := HE1.out
  obtain ⟨bE, oE, rfl, hbE, q0, q1, q2⟩ := hee.at (i := 0) (by simp)
  simp only [Nat.zero_mul, Nat.add_zero, List.getElem_cons_zero] at q0 q1 q2
  clear hee
  go_wp2
  go_ret
  exact ⟨by simp [H_h3.out], Z.out⟩
set_option maxHeartbeats 8000000 in
theorem spawns_d {W D J S me d : Int} {AT A SA : Option Addr} {ct c cs : Nat} {T : List Fo.Tsk} {x : WkS} {m : List Int} {w : World} (hT : Fo.Tk w.heap.size w AT T) (hTl : T.length ≤ maxLen) (hTk : ∀ y ∈ T, y.2.length ≤ maxLen) (hA : Rd w A m) (hS : Fo.Ir w.heap.size w SA x.stk) (hu : UM m) (hf : UF x.f) (hsp : I x.spins) (hlk : I x.look) (hd : U d) (hme : I me) (hq : (Fo.few T && decide ((x.stk.length : Int) ≤ 40)) = true) (hsm : Fo.Sm T) (hok : m.length ≤ 500 ∧ x.stk.length ≤ 900) (hm : mayW W D J S T m me x = true) {m' : List Int} {z : WkS} {l' : List Evn} (hw : workS W D J S T m me x d = (m', z, l')) (hp : x.pc = 11) (hz : (z.pc == 12) = false) : Tells 6 #[cf W D J S, .slice AT T.length ct, .slice A m.length c, .int .i64 me, wv x (.slice SA x.stk.length cs), .int .u64 d] w (.bool true) := by
  have hd5 : decide ((500 : Int) < (m.length : Int)) = false := decide_eq_false (by omega)
  have HT := Lib.hid hT
  have HTL := Lib.hid hTl
  have HTK := Lib.hid hTk
  have HA := Lib.hid hA
  have HS := Lib.hid hS
  have HU := Lib.hid hu
  have HF := Lib.hid hf
  have HSP := Lib.hid hsp
  have HLK := Lib.hid hlk
  have HME := Lib.hid hme
  have HDd := Lib.hid hd
  have H_hq := Lib.hid hq
  have H_hsm := Lib.hid hsm
  have H_hok := Lib.hid hok
  have H_hm := Lib.hid hm
  have H_hw := Lib.hid hw
  have H_hp := Lib.hid hp
  clear hT hTl hTk hA hS hu hf hsp hlk hme hd hq hsm hok hm hw hp
  have Z := Lib.hid ((bel_alloc w (.cells #[.int .i64 W, .int .i64 D, .int .i64 J, .int .i64 S] 23)).trans ((bel_alloc (w.alloc (.cells #[.int .i64 W, .int .i64 D, .int .i64 J, .int .i64 S] 23)) (.cells #[.int .i64 x.pc, .slice SA x.stk.length cs, .int .i64 x.f.op, .int .i64 x.f.pc, .int .i64 x.f.who, .int .u64 x.f.val, .int .u64 x.f.x, .int .u64 x.f.y, .int .i64 x.f.res, .int .i64 x.spins, .int .i64 x.look] 32)).mono (by simp)))
  have BX := Lib.hid ((Bx.mk w W D J S 23).below (bel_alloc _ (.cells #[.int .i64 x.pc, .slice SA x.stk.length cs, .int .i64 x.f.op, .int .i64 x.f.pc, .int .i64 x.f.who, .int .u64 x.f.val, .int .u64 x.f.x, .int .u64 x.f.y, .int .i64 x.f.res, .int .i64 x.spins, .int .i64 x.look] 32)))
  have BV := Lib.hid (Wvb.new1 (w.alloc (.cells #[.int .i64 W, .int .i64 D, .int .i64 J, .int .i64 S] 23)) (g := w.heap.size + 1) x (.slice SA x.stk.length cs) (by simp))
  go_enter Tryz.func6, Tryz.ntmps6
  go_wp2_with fail
  refine (wawake_any _).mono ?_
  rintro _ w1 ⟨rfl, zz⟩
  replace BX := Lib.hid (BX.out.below zz)
  replace BV := Lib.hid (BV.out.after zz)
  replace Z := Lib.hid (Z.out.trans (zz.mono Z.out.size))
  clear zz
  obtain ⟨_, e0, e1, e2, e3⟩ := BX.out
  obtain ⟨f0, f1, f2, f3, f4, f5, f6, f7, f8, f9, f10⟩ := BV.out.cells
  go_wp2_with fail
  refine (wfew_any (x := x) (HT.out.later Z.out) HTL.out HTK.out (q := true) H_hq.out).mono ?_
  rintro _ w2 ⟨rfl, zz⟩
  clear e0 e1 e2 e3 f0 f1 f2 f3 f4 f5 f6 f7 f8 f9 f10
  replace BX := Lib.hid (BX.out.below zz)
  replace BV := Lib.hid (BV.out.after zz)
  replace Z := Lib.hid (Z.out.trans (zz.mono Z.out.size))
  clear zz
  obtain ⟨_, e0, e1, e2, e3⟩ := BX.out
  obtain ⟨f0, f1, f2, f3, f4, f5, f6, f7, f8, f9, f10⟩ := BV.out.cells
  go_wp2_with fail
  refine (Tells.of (wmay_any (n₀ := _) (x := x) (m := m) (SA := SA) (cs := cs) (HT.out.later Z.out) (HS.out.later Z.out) (Nat.le_refl _) H_hsm.out (by have := H_hok.out.2; omega) rfl) (v' := .bool true) (by rw [H_hm.out])).mono ?_
  rintro _ w3 ⟨rfl, zz⟩
  clear e0 e1 e2 e3 f0 f1 f2 f3 f4 f5 f6 f7 f8 f9 f10
  replace BX := Lib.hid (BX.out.below zz)
  replace BV := Lib.hid (BV.out.after zz)
  replace Z := Lib.hid (Z.out.trans (zz.mono Z.out.size))
  clear zz
  obtain ⟨_, e0, e1, e2, e3⟩ := BX.out
  obtain ⟨f0, f1, f2, f3, f4, f5, f6, f7, f8, f9, f10⟩ := BV.out.cells
  go_wp2_with fail
  refine (wstep_n (HT.out.later Z.out) (HA.out.below Z.out) (HS.out.later Z.out) H_hsm.out H_hok.out HU.out HF.out HSP.out HLK.out HDd.out HME.out rfl H_hw.out).mono ?_
  rintro _ w4 ⟨A1, c1, S1, s1, E1, ce1, rfl, r1, r2, r3, zz⟩
  have HM1 := Lib.hid r1
  have HS1 := Lib.hid r2
  have HE1 := Lib.hid r3
  clear r1 r2 r3
  clear e0 e1 e2 e3 f0 f1 f2 f3 f4 f5 f6 f7 f8 f9 f10
  replace BX := Lib.hid (BX.out.below zz)
  replace BV := Lib.hid (BV.out.after zz)
  replace Z := Lib.hid (Z.out.trans (zz.mono Z.out.size))
  clear zz
  obtain ⟨_, e0, e1, e2, e3⟩ := BX.out
  obtain ⟨f0, f1, f2, f3, f4, f5, f6, f7, f8, f9, f10⟩ := BV.out.cells
  go_upto_region 6 with fail
  clear e0 e1 e2 e3 f0 f1 f2 f3 f4 f5 f6 f7 f8 f9 f10
  have zz := bel_alloc w4 (.cells #[.int .i64 z.pc, .slice S1 z.stk.length s1, .int .i64 z.f.op, .int .i64 z.f.pc, .int .i64 z.f.who, .int .u64 z.f.val, .int .u64 z.f.x, .int .u64 z.f.y, .int .i64 z.f.res, .int .i64 z.spins, .int .i64 z.look] 32)
  replace BX := Lib.hid (BX.out.below zz)
  replace BV := Lib.hid (BV.out.after zz)
  have BY := Lib.hid (Wvb.new w4 z (.slice S1 z.stk.length s1))
  replace HM1 := Lib.hid (HM1.out.below zz)
  replace HS1 := Lib.hid (HS1.out.later zz)
  replace HE1 := Lib.hid (evx_later HE1.out zz)
  replace Z := Lib.hid (Z.out.trans (zz.mono Z.out.size))
  clear zz
  have hgx1 : w4.heap.size = w4.heap.size := rfl
  generalize hv1 : w4.alloc (.cells #[.int .i64 z.pc, .slice S1 z.stk.length s1, .int .i64 z.f.op, .int .i64 z.f.pc, .int .i64 z.f.who, .int .u64 z.f.val, .int .u64 z.f.x, .int .u64 z.f.y, .int .i64 z.f.res, .int .i64 z.spins, .int .i64 z.look] 32) = v1 at *
  generalize w4.heap.size = g1 at *
  clear hv1 hgx1
  have Z4 := Lib.hid (Below.refl v1.heap.size v1)
  obtain ⟨_, e0, e1, e2, e3⟩ := BX.out
  obtain ⟨f0, f1, f2, f3, f4, f5, f6, f7, f8, f9, f10⟩ := BV.out.cells
  obtain ⟨g0, g1, g2, g3, g4, g5, g6, g7, g8, g9, g10⟩ := BY.out.cells
  have hlg := BY.out.lt
  have hp := H_hp.out
  go_wp2
  all_goals (go_ret; exact ⟨rfl, Z.out⟩)
set_option maxHeartbeats 8000000 in
theorem spawns_e {W D J S me d : Int} {AT A SA : Option Addr} {ct c cs : Nat} {T : List Fo.Tsk} {x : WkS} {m : List Int} {w : World} (hT : Fo.Tk w.heap.size w AT T) (hTl : T.length ≤ maxLen) (hTk : ∀ y ∈ T, y.2.length ≤ maxLen) (hA : Rd w A m) (hS : Fo.Ir w.heap.size w SA x.stk) (hu : UM m) (hf : UF x.f) (hsp : I x.spins) (hlk : I x.look) (hd : U d) (hme : I me) (hq : (Fo.few T && decide ((x.stk.length : Int) ≤ 40)) = true) (hsm : Fo.Sm T) (hok : m.length ≤ 500 ∧ x.stk.length ≤ 900) (hm : mayW W D J S T m me x = true) {m' : List Int} {z : WkS} {l' : List Evn} (hw : workS W D J S T m me x d = (m', z, l')) (hp : x.pc = 10) (hl : ((l'.length : Int) == 1) = false) (hz : (z.pc != 11) = true) : Tells 6 #[cf W D J S, .slice AT T.length ct, .slice A m.length c, .int .i64 me, wv x (.slice SA x.stk.length cs), .int .u64 d] w (.bool true) := by
  have hd5 : decide ((500 : Int) < (m.length : Int)) = false := decide_eq_false (by omega)
  have HT := Lib.hid hT
  have HTL := Lib.hid hTl
  have HTK := Lib.hid hTk
  have HA := Lib.hid hA
  have HS := Lib.hid hS
  have HU := Lib.hid hu
  have HF := Lib.hid hf
  have HSP := Lib.hid hsp
  have HLK := Lib.hid hlk
  have HME := Lib.hid hme
  have HDd := Lib.hid hd
  have H_hq := Lib.hid hq
  have H_hsm := Lib.hid hsm
  have H_hok := Lib.hid hok
  have H_hm := Lib.hid hm
  have H_hw := Lib.hid hw
  have H_hp := Lib.hid hp
  clear hT hTl hTk hA hS hu hf hsp hlk hme hd hq hsm hok hm hw hp
  have Z := Lib.hid ((bel_alloc w (.cells #[.int .i64 W, .int .i64 D, .int .i64 J, .int .i64 S] 23)).trans ((bel_alloc (w.alloc (.cells #[.int .i64 W, .int .i64 D, .int .i64 J, .int .i64 S] 23)) (.cells #[.int .i64 x.pc, .slice SA x.stk.length cs, .int .i64 x.f.op, .int .i64 x.f.pc, .int .i64 x.f.who, .int .u64 x.f.val, .int .u64 x.f.x, .int .u64 x.f.y, .int .i64 x.f.res, .int .i64 x.spins, .int .i64 x.look] 32)).mono (by simp)))
  have BX := Lib.hid ((Bx.mk w W D J S 23).below (bel_alloc _ (.cells #[.int .i64 x.pc, .slice SA x.stk.length cs, .int .i64 x.f.op, .int .i64 x.f.pc, .int .i64 x.f.who, .int .u64 x.f.val, .int .u64 x.f.x, .int .u64 x.f.y, .int .i64 x.f.res, .int .i64 x.spins, .int .i64 x.look] 32)))
  have BV := Lib.hid (Wvb.new1 (w.alloc (.cells #[.int .i64 W, .int .i64 D, .int .i64 J, .int .i64 S] 23)) (g := w.heap.size + 1) x (.slice SA x.stk.length cs) (by simp))
  go_enter Tryz.func6, Tryz.ntmps6
  go_wp2_with fail
  refine (wawake_any _).mono ?_
  rintro _ w1 ⟨rfl, zz⟩
  replace BX := Lib.hid (BX.out.below zz)
  replace BV := Lib.hid (BV.out.after zz)
  replace Z := Lib.hid (Z.out.trans (zz.mono Z.out.size))
  clear zz
  obtain ⟨_, e0, e1, e2, e3⟩ := BX.out
  obtain ⟨f0, f1, f2, f3, f4, f5, f6, f7, f8, f9, f10⟩ := BV.out.cells
  go_wp2_with fail
  refine (wfew_any (x := x) (HT.out.later Z.out) HTL.out HTK.out (q := true) H_hq.out).mono ?_
  rintro _ w2 ⟨rfl, zz⟩
  clear e0 e1 e2 e3 f0 f1 f2 f3 f4 f5 f6 f7 f8 f9 f10
  replace BX := Lib.hid (BX.out.below zz)
  replace BV := Lib.hid (BV.out.after zz)
  replace Z := Lib.hid (Z.out.trans (zz.mono Z.out.size))
  clear zz
  obtain ⟨_, e0, e1, e2, e3⟩ := BX.out
  obtain ⟨f0, f1, f2, f3, f4, f5, f6, f7, f8, f9, f10⟩ := BV.out.cells
  go_wp2_with fail
  refine (Tells.of (wmay_any (n₀ := _) (x := x) (m := m) (SA := SA) (cs := cs) (HT.out.later Z.out) (HS.out.later Z.out) (Nat.le_refl _) H_hsm.out (by have := H_hok.out.2; omega) rfl) (v' := .bool true) (by rw [H_hm.out])).mono ?_
  rintro _ w3 ⟨rfl, zz⟩
  clear e0 e1 e2 e3 f0 f1 f2 f3 f4 f5 f6 f7 f8 f9 f10
  replace BX := Lib.hid (BX.out.below zz)
  replace BV := Lib.hid (BV.out.after zz)
  replace Z := Lib.hid (Z.out.trans (zz.mono Z.out.size))
  clear zz
  obtain ⟨_, e0, e1, e2, e3⟩ := BX.out
  obtain ⟨f0, f1, f2, f3, f4, f5, f6, f7, f8, f9, f10⟩ := BV.out.cells
  go_wp2_with fail
  refine (wstep_n (HT.out.later Z.out) (HA.out.below Z.out) (HS.out.later Z.out) H_hsm.out H_hok.out HU.out HF.out HSP.out HLK.out HDd.out HME.out rfl H_hw.out).mono ?_
  rintro _ w4 ⟨A1, c1, S1, s1, E1, ce1, rfl, r1, r2, r3, zz⟩
  have HM1 := Lib.hid r1
  have HS1 := Lib.hid r2
  have HE1 := Lib.hid r3
  clear r1 r2 r3
  clear e0 e1 e2 e3 f0 f1 f2 f3 f4 f5 f6 f7 f8 f9 f10
  replace BX := Lib.hid (BX.out.below zz)
  replace BV := Lib.hid (BV.out.after zz)
  replace Z := Lib.hid (Z.out.trans (zz.mono Z.out.size))
  clear zz
  obtain ⟨_, e0, e1, e2, e3⟩ := BX.out
  obtain ⟨f0, f1, f2, f3, f4, f5, f6, f7, f8, f9, f10⟩ := BV.out.cells
  go_upto_region 6 with fail
  clear e0 e1 e2 e3 f0 f1 f2 f3 f4 f5 f6 f7 f8 f9 f10
  have zz := bel_alloc w4 (.cells #[.int .i64 z.pc, .slice S1 z.stk.length s1, .int .i64 z.f.op, .int .i64 z.f.pc, .int .i64 z.f.who, .int .u64 z.f.val, .int .u64 z.f.x, .int .u64 z.f.y, .int .i64 z.f.res, .int .i64 z.spins, .int .i64 z.look] 32)
  replace BX := Lib.hid (BX.out.below zz)
  replace BV := Lib.hid (BV.out.after zz)
  have BY := Lib.hid (Wvb.new w4 z (.slice S1 z.stk.length s1))
  replace HM1 := Lib.hid (HM1.out.below zz)
  replace HS1 := Lib.hid (HS1.out.later zz)
  replace HE1 := Lib.hid (evx_later HE1.out zz)
  replace Z := Lib.hid (Z.out.trans (zz.mono Z.out.size))
  clear zz
  have hgx1 : w4.heap.size = w4.heap.size := rfl
  generalize hv1 : w4.alloc (.cells #[.int .i64 z.pc, .slice S1 z.stk.length s1, .int .i64 z.f.op, .int .i64 z.f.pc, .int .i64 z.f.who, .int .u64 z.f.val, .int .u64 z.f.x, .int .u64 z.f.y, .int .i64 z.f.res, .int .i64 z.spins, .int .i64 z.look] 32) = v1 at *
  generalize w4.heap.size = g1 at *
  clear hv1 hgx1
  have Z4 := Lib.hid (Below.refl v1.heap.size v1)
  obtain ⟨_, e0, e1, e2, e3⟩ := BX.out
  obtain ⟨f0, f1, f2, f3, f4, f5, f6, f7, f8, f9, f10⟩ := BV.out.cells
  obtain ⟨g0, g1, g2, g3, g4, g5, g6, g7, g8, g9, g10⟩ := BY.out.cells
  have hlg := BY.out.lt
  have hp := H_hp.out
  go_wp2
  go_ret
  exact ⟨rfl, Z.out⟩
set_option maxHeartbeats 8000000 in
theorem spawns_f {W D J S me d : Int} {AT A SA : Option Addr} {ct c cs : Nat} {T : List Fo.Tsk} {x : WkS} {m : List Int} {w : World} (hT : Fo.Tk w.heap.size w AT T) (hTl : T.length ≤ maxLen) (hTk : ∀ y ∈ T, y.2.length ≤ maxLen) (hA : Rd w A m) (hS : Fo.Ir w.heap.size w SA x.stk) (hu : UM m) (hf : UF x.f) (hsp : I x.spins) (hlk : I x.look) (hd : U d) (hme : I me) (hq : (Fo.few T && decide ((x.stk.length : Int) ≤ 40)) = true) (hsm : Fo.Sm T) (hok : m.length ≤ 500 ∧ x.stk.length ≤ 900) (hm : mayW W D J S T m me x = true) {m' : List Int} {z : WkS} {l' : List Evn} (hw : workS W D J S T m me x d = (m', z, l')) (hp : x.pc = 12) (hz9 : (z.pc == 9) = false) (hz : (z.pc != 11) = true) : Tells 6 #[cf W D J S, .slice AT T.length ct, .slice A m.length c, .int .i64 me, wv x (.slice SA x.stk.length cs), .int .u64 d] w (.bool true) := by
  have hd5 : decide ((500 : Int) < (m.length : Int)) = false := decide_eq_false (by omega)
  have HT := Lib.hid hT
  have HTL := Lib.hid hTl
  have HTK := Lib.hid hTk
  have HA := Lib.hid hA
  have HS := Lib.hid hS
  have HU := Lib.hid hu
  have HF := Lib.hid hf
  have HSP := Lib.hid hsp
  have HLK := Lib.hid hlk
  have HME := Lib.hid hme
  have HDd := Lib.hid hd
  have H_hq := Lib.hid hq
  have H_hsm := Lib.hid hsm
  have H_hok := Lib.hid hok
  have H_hm := Lib.hid hm
  have H_hw := Lib.hid hw
  have H_hp := Lib.hid hp
  clear hT hTl hTk hA hS hu hf hsp hlk hme hd hq hsm hok hm hw hp
  have Z := Lib.hid ((bel_alloc w (.cells #[.int .i64 W, .int .i64 D, .int .i64 J, .int .i64 S] 23)).trans ((bel_alloc (w.alloc (.cells #[.int .i64 W, .int .i64 D, .int .i64 J, .int .i64 S] 23)) (.cells #[.int .i64 x.pc, .slice SA x.stk.length cs, .int .i64 x.f.op, .int .i64 x.f.pc, .int .i64 x.f.who, .int .u64 x.f.val, .int .u64 x.f.x, .int .u64 x.f.y, .int .i64 x.f.res, .int .i64 x.spins, .int .i64 x.look] 32)).mono (by simp)))
  have BX := Lib.hid ((Bx.mk w W D J S 23).below (bel_alloc _ (.cells #[.int .i64 x.pc, .slice SA x.stk.length cs, .int .i64 x.f.op, .int .i64 x.f.pc, .int .i64 x.f.who, .int .u64 x.f.val, .int .u64 x.f.x, .int .u64 x.f.y, .int .i64 x.f.res, .int .i64 x.spins, .int .i64 x.look] 32)))
  have BV := Lib.hid (Wvb.new1 (w.alloc (.cells #[.int .i64 W, .int .i64 D, .int .i64 J, .int .i64 S] 23)) (g := w.heap.size + 1) x (.slice SA x.stk.length cs) (by simp))
  go_enter Tryz.func6, Tryz.ntmps6
  go_wp2_with fail
  refine (wawake_any _).mono ?_
  rintro _ w1 ⟨rfl, zz⟩
  replace BX := Lib.hid (BX.out.below zz)
  replace BV := Lib.hid (BV.out.after zz)
  replace Z := Lib.hid (Z.out.trans (zz.mono Z.out.size))
  clear zz
  obtain ⟨_, e0, e1, e2, e3⟩ := BX.out
  obtain ⟨f0, f1, f2, f3, f4, f5, f6, f7, f8, f9, f10⟩ := BV.out.cells
  go_wp2_with fail
  refine (wfew_any (x := x) (HT.out.later Z.out) HTL.out HTK.out (q := true) H_hq.out).mono ?_
  rintro _ w2 ⟨rfl, zz⟩
  clear e0 e1 e2 e3 f0 f1 f2 f3 f4 f5 f6 f7 f8 f9 f10
  replace BX := Lib.hid (BX.out.below zz)
  replace BV := Lib.hid (BV.out.after zz)
  replace Z := Lib.hid (Z.out.trans (zz.mono Z.out.size))
  clear zz
  obtain ⟨_, e0, e1, e2, e3⟩ := BX.out
  obtain ⟨f0, f1, f2, f3, f4, f5, f6, f7, f8, f9, f10⟩ := BV.out.cells
  go_wp2_with fail
  refine (Tells.of (wmay_any (n₀ := _) (x := x) (m := m) (SA := SA) (cs := cs) (HT.out.later Z.out) (HS.out.later Z.out) (Nat.le_refl _) H_hsm.out (by have := H_hok.out.2; omega) rfl) (v' := .bool true) (by rw [H_hm.out])).mono ?_
  rintro _ w3 ⟨rfl, zz⟩
  clear e0 e1 e2 e3 f0 f1 f2 f3 f4 f5 f6 f7 f8 f9 f10
  replace BX := Lib.hid (BX.out.below zz)
  replace BV := Lib.hid (BV.out.after zz)
  replace Z := Lib.hid (Z.out.trans (zz.mono Z.out.size))
  clear zz
  obtain ⟨_, e0, e1, e2, e3⟩ := BX.out
  obtain ⟨f0, f1, f2, f3, f4, f5, f6, f7, f8, f9, f10⟩ := BV.out.cells
  go_wp2_with fail
  refine (wstep_n (HT.out.later Z.out) (HA.out.below Z.out) (HS.out.later Z.out) H_hsm.out H_hok.out HU.out HF.out HSP.out HLK.out HDd.out HME.out rfl H_hw.out).mono ?_
  rintro _ w4 ⟨A1, c1, S1, s1, E1, ce1, rfl, r1, r2, r3, zz⟩
  have HM1 := Lib.hid r1
  have HS1 := Lib.hid r2
  have HE1 := Lib.hid r3
  clear r1 r2 r3
  clear e0 e1 e2 e3 f0 f1 f2 f3 f4 f5 f6 f7 f8 f9 f10
  replace BX := Lib.hid (BX.out.below zz)
  replace BV := Lib.hid (BV.out.after zz)
  replace Z := Lib.hid (Z.out.trans (zz.mono Z.out.size))
  clear zz
  obtain ⟨_, e0, e1, e2, e3⟩ := BX.out
  obtain ⟨f0, f1, f2, f3, f4, f5, f6, f7, f8, f9, f10⟩ := BV.out.cells
  go_upto_region 6 with fail
  clear e0 e1 e2 e3 f0 f1 f2 f3 f4 f5 f6 f7 f8 f9 f10
  have zz := bel_alloc w4 (.cells #[.int .i64 z.pc, .slice S1 z.stk.length s1, .int .i64 z.f.op, .int .i64 z.f.pc, .int .i64 z.f.who, .int .u64 z.f.val, .int .u64 z.f.x, .int .u64 z.f.y, .int .i64 z.f.res, .int .i64 z.spins, .int .i64 z.look] 32)
  replace BX := Lib.hid (BX.out.below zz)
  replace BV := Lib.hid (BV.out.after zz)
  have BY := Lib.hid (Wvb.new w4 z (.slice S1 z.stk.length s1))
  replace HM1 := Lib.hid (HM1.out.below zz)
  replace HS1 := Lib.hid (HS1.out.later zz)
  replace HE1 := Lib.hid (evx_later HE1.out zz)
  replace Z := Lib.hid (Z.out.trans (zz.mono Z.out.size))
  clear zz
  have hgx1 : w4.heap.size = w4.heap.size := rfl
  generalize hv1 : w4.alloc (.cells #[.int .i64 z.pc, .slice S1 z.stk.length s1, .int .i64 z.f.op, .int .i64 z.f.pc, .int .i64 z.f.who, .int .u64 z.f.val, .int .u64 z.f.x, .int .u64 z.f.y, .int .i64 z.f.res, .int .i64 z.spins, .int .i64 z.look] 32) = v1 at *
  generalize w4.heap.size = g1 at *
  clear hv1 hgx1
  have Z4 := Lib.hid (Below.refl v1.heap.size v1)
  obtain ⟨_, e0, e1, e2, e3⟩ := BX.out
  obtain ⟨f0, f1, f2, f3, f4, f5, f6, f7, f8, f9, f10⟩ := BV.out.cells
  obtain ⟨g0, g1, g2, g3, g4, g5, g6, g7, g8, g9, g10⟩ := BY.out.cells
  have hlg := BY.out.lt
  have hp := H_hp.out
  go_wp2
  go_ret
  exact ⟨rfl, Z.out⟩
set_option maxHeartbeats 8000000 in
theorem spawns_g {W D J S me d : Int} {AT A SA : Option Addr} {ct c cs : Nat} {T : List Fo.Tsk} {x : WkS} {m : List Int} {w : World} (hT : Fo.Tk w.heap.size w AT T) (hTl : T.length ≤ maxLen) (hTk : ∀ y ∈ T, y.2.length ≤ maxLen) (hA : Rd w A m) (hS : Fo.Ir w.heap.size w SA x.stk) (hu : UM m) (hf : UF x.f) (hsp : I x.spins) (hlk : I x.look) (hd : U d) (hme : I me) (hq : (Fo.few T && decide ((x.stk.length : Int) ≤ 40)) = true) (hsm : Fo.Sm T) (hok : m.length ≤ 500 ∧ x.stk.length ≤ 900) (hm : mayW W D J S T m me x = true) {m' : List Int} {z : WkS} {l' : List Evn} (hw : workS W D J S T m me x d = (m', z, l')) (hp0 : (x.pc == 10) = false) (hp1 : (x.pc == 11) = false) (hp2 : (x.pc == 12) = false) (hz : (z.pc != 11) = true) : Tells 6 #[cf W D J S, .slice AT T.length ct, .slice A m.length c, .int .i64 me, wv x (.slice SA x.stk.length cs), .int .u64 d] w (.bool true) := by
  have hd5 : decide ((500 : Int) < (m.length : Int)) = false := decide_eq_false (by omega)
  have HT := Lib.hid hT
  have HTL := Lib.hid hTl
  have HTK := Lib.hid hTk
  have HA := Lib.hid hA
  have HS := Lib.hid hS
  have HU := Lib.hid hu
  have HF := Lib.hid hf
  have HSP := Lib.hid hsp
  have HLK := Lib.hid hlk
  have HME := Lib.hid hme
  have HDd := Lib.hid hd
  have H_hq := Lib.hid hq
  have H_hsm := Lib.hid hsm
  have H_hok := Lib.hid hok
  have H_hm := Lib.hid hm
  have H_hw := Lib.hid hw
  clear hT hTl hTk hA hS hu hf hsp hlk hme hd hq hsm hok hm hw
  have Z := Lib.hid ((bel_alloc w (.cells #[.int .i64 W, .int .i64 D, .int .i64 J, .int .i64 S] 23)).trans ((bel_alloc (w.alloc (.cells #[.int .i64 W, .int .i64 D, .int .i64 J, .int .i64 S] 23)) (.cells #[.int .i64 x.pc, .slice SA x.stk.length cs, .int .i64 x.f.op, .int .i64 x.f.pc, .int .i64 x.f.who, .int .u64 x.f.val, .int .u64 x.f.x, .int .u64 x.f.y, .int .i64 x.f.res, .int .i64 x.spins, .int .i64 x.look] 32)).mono (by simp)))
  have BX := Lib.hid ((Bx.mk w W D J S 23).below (bel_alloc _ (.cells #[.int .i64 x.pc, .slice SA x.stk.length cs, .int .i64 x.f.op, .int .i64 x.f.pc, .int .i64 x.f.who, .int .u64 x.f.val, .int .u64 x.f.x, .int .u64 x.f.y, .int .i64 x.f.res, .int .i64 x.spins, .int .i64 x.look] 32)))
  have BV := Lib.hid (Wvb.new1 (w.alloc (.cells #[.int .i64 W, .int .i64 D, .int .i64 J, .int .i64 S] 23)) (g := w.heap.size + 1) x (.slice SA x.stk.length cs) (by simp))
  go_enter Tryz.func6, Tryz.ntmps6
  go_wp2_with fail
  refine (wawake_any _).mono ?_
  rintro _ w1 ⟨rfl, zz⟩
  replace BX := Lib.hid (BX.out.below zz)
  replace BV := Lib.hid (BV.out.after zz)
  replace Z := Lib.hid (Z.out.trans (zz.mono Z.out.size))
  clear zz
  obtain ⟨_, e0, e1, e2, e3⟩ := BX.out
  obtain ⟨f0, f1, f2, f3, f4, f5, f6, f7, f8, f9, f10⟩ := BV.out.cells
  go_wp2_with fail
  refine (wfew_any (x := x) (HT.out.later Z.out) HTL.out HTK.out (q := true) H_hq.out).mono ?_
  rintro _ w2 ⟨rfl, zz⟩
  clear e0 e1 e2 e3 f0 f1 f2 f3 f4 f5 f6 f7 f8 f9 f10
  replace BX := Lib.hid (BX.out.below zz)
  replace BV := Lib.hid (BV.out.after zz)
  replace Z := Lib.hid (Z.out.trans (zz.mono Z.out.size))
  clear zz
  obtain ⟨_, e0, e1, e2, e3⟩ := BX.out
  obtain ⟨f0, f1, f2, f3, f4, f5, f6, f7, f8, f9, f10⟩ := BV.out.cells
  go_wp2_with fail
  refine (Tells.of (wmay_any (n₀ := _) (x := x) (m := m) (SA := SA) (cs := cs) (HT.out.later Z.out) (HS.out.later Z.out) (Nat.le_refl _) H_hsm.out (by have := H_hok.out.2; omega) rfl) (v' := .bool true) (by rw [H_hm.out])).mono ?_
  rintro _ w3 ⟨rfl, zz⟩
  clear e0 e1 e2 e3 f0 f1 f2 f3 f4 f5 f6 f7 f8 f9 f10
  replace BX := Lib.hid (BX.out.below zz)
  replace BV := Lib.hid (BV.out.after zz)
  replace Z := Lib.hid (Z.out.trans (zz.mono Z.out.size))
  clear zz
  obtain ⟨_, e0, e1, e2, e3⟩ := BX.out
  obtain ⟨f0, f1, f2, f3, f4, f5, f6, f7, f8, f9, f10⟩ := BV.out.cells
  go_wp2_with fail
  refine (wstep_n (HT.out.later Z.out) (HA.out.below Z.out) (HS.out.later Z.out) H_hsm.out H_hok.out HU.out HF.out HSP.out HLK.out HDd.out HME.out rfl H_hw.out).mono ?_
  rintro _ w4 ⟨A1, c1, S1, s1, E1, ce1, rfl, r1, r2, r3, zz⟩
  have HM1 := Lib.hid r1
  have HS1 := Lib.hid r2
  have HE1 := Lib.hid r3
  clear r1 r2 r3
  clear e0 e1 e2 e3 f0 f1 f2 f3 f4 f5 f6 f7 f8 f9 f10
  replace BX := Lib.hid (BX.out.below zz)
  replace BV := Lib.hid (BV.out.after zz)
  replace Z := Lib.hid (Z.out.trans (zz.mono Z.out.size))
  clear zz
  obtain ⟨_, e0, e1, e2, e3⟩ := BX.out
  obtain ⟨f0, f1, f2, f3, f4, f5, f6, f7, f8, f9, f10⟩ := BV.out.cells
  go_upto_region 6 with fail
  clear e0 e1 e2 e3 f0 f1 f2 f3 f4 f5 f6 f7 f8 f9 f10
  have zz := bel_alloc w4 (.cells #[.int .i64 z.pc, .slice S1 z.stk.length s1, .int .i64 z.f.op, .int .i64 z.f.pc, .int .i64 z.f.who, .int .u64 z.f.val, .int .u64 z.f.x, .int .u64 z.f.y, .int .i64 z.f.res, .int .i64 z.spins, .int .i64 z.look] 32)
  replace BX := Lib.hid (BX.out.below zz)
  replace BV := Lib.hid (BV.out.after zz)
  have BY := Lib.hid (Wvb.new w4 z (.slice S1 z.stk.length s1))
  replace HM1 := Lib.hid (HM1.out.below zz)
  replace HS1 := Lib.hid (HS1.out.later zz)
  replace HE1 := Lib.hid (evx_later HE1.out zz)
  replace Z := Lib.hid (Z.out.trans (zz.mono Z.out.size))
  clear zz
  have hgx1 : w4.heap.size = w4.heap.size := rfl
  generalize hv1 : w4.alloc (.cells #[.int .i64 z.pc, .slice S1 z.stk.length s1, .int .i64 z.f.op, .int .i64 z.f.pc, .int .i64 z.f.who, .int .u64 z.f.val, .int .u64 z.f.x, .int .u64 z.f.y, .int .i64 z.f.res, .int .i64 z.spins, .int .i64 z.look] 32) = v1 at *
  generalize w4.heap.size = g1 at *
  clear hv1 hgx1
  have Z4 := Lib.hid (Below.refl v1.heap.size v1)
  obtain ⟨_, e0, e1, e2, e3⟩ := BX.out
  obtain ⟨f0, f1, f2, f3, f4, f5, f6, f7, f8, f9, f10⟩ := BV.out.cells
  obtain ⟨g0, g1, g2, g3, g4, g5, g6, g7, g8, g9, g10⟩ := BY.out.cells
  have hlg := BY.out.lt
  go_wp2
  go_ret
  exact ⟨rfl, Z.out⟩
set_option maxHeartbeats 8000000 in
theorem spawns_all {W D J S me d : Int} {AT A SA : Option Addr} {ct c cs : Nat} {T : List Fo.Tsk} {x : WkS} {m : List Int} {w : World} (hT : Fo.Tk w.heap.size w AT T) (hTl : T.length ≤ maxLen) (hTk : ∀ y ∈ T, y.2.length ≤ maxLen) (hA : Rd w A m) (hS : Fo.Ir w.heap.size w SA x.stk) (hu : UM m) (hf : UF x.f) (hsp : I x.spins) (hlk : I x.look) (hd : U d) (hme : I me) : Tells 6 #[cf W D J S, .slice AT T.length ct, .slice A m.length c, .int .i64 me, wv x (.slice SA x.stk.length cs), .int .u64 d] w (.bool true) := by
  cases hq : (Fo.few T && decide ((x.stk.length : Int) ≤ 40))
  · exact spawns_few hT hTl hTk hA hS hu hf hsp hlk hd hme hq
  by_cases hb : 500 < m.length
  · exact spawns_big hT hTl hTk hA hS hu hf hsp hlk hd hme hq hb
  obtain ⟨hq1, hq2⟩ : Fo.few T = true ∧ (x.stk.length : Int) ≤ 40 := by simpa using hq
  have hsm := Fo.few_sm hq1
  have hok : m.length ≤ 500 ∧ x.stk.length ≤ 900 := ⟨by omega, by omega⟩
  cases hm : mayW W D J S T m me x
  · exact spawns_not hT hTl hTk hA hS hu hf hsp hlk hd hme hq hsm hok hm
  have o := spawns_W (d := d) hm
  have e1 : workS W D J S T m me x d = ((stepW W D J S T m me x d).1, (stepW W D J S T m me x d).2.1, (stepW W D J S T m me x d).2.2) := by unfold workS; rw [if_pos hm]
  by_cases h10 : x.pc = 10
  · by_cases h1 : (stepW W D J S T m me x d).2.2.length = 1
    · obtain ⟨tk, k1, k2, k3⟩ := o.spawn h10 h1
      exact spawns_a hT hTl hTk hA hS hu hf hsp hlk hd hme hq hsm hok hm e1 h10 k1 k2 (IntKind.wrap_u64 tk) k3
    · exact spawns_e hT hTl hTk hA hS hu hf hsp hlk hd hme hq hsm hok hm e1 h10 (by simp; omega) (by have := o.push; simp only [bne_iff_ne, ne_eq]; intro h; rcases this h with h2 | ⟨_, h2⟩; omega; exact h1 h2)
  by_cases h11 : x.pc = 11
  · by_cases h1 : (stepW W D J S T m me x d).2.1.pc = 12
    · obtain ⟨k1, k2, k3, k4⟩ := o.over h11 h1
      exact spawns_b hT hTl hTk hA hS hu hf hsp hlk hd hme hq hsm hok hm e1 h11 k1 h1 k2 k3 k4
    · exact spawns_d hT hTl hTk hA hS hu hf hsp hlk hd hme hq hsm hok hm e1 h11 (by simpa using h1)
  have hz : ((stepW W D J S T m me x d).2.1.pc != 11) = true := by
    simp only [bne_iff_ne, ne_eq]
    intro h
    rcases o.push h with h2 | ⟨h2, _⟩
    · exact h11 h2
    · exact h10 h2
  by_cases h12 : x.pc = 12
  · by_cases h1 : (stepW W D J S T m me x d).2.1.pc = 9
    · obtain ⟨tk, k1, k2⟩ := o.self h12 h1
      exact spawns_c hT hTl hTk hA hS hu hf hsp hlk hd hme hq hsm hok hm e1 h12 k1 h1 k2
    · exact spawns_f hT hTl hTk hA hS hu hf hsp hlk hd hme hq hsm hok hm e1 h12 (by simpa using h1) hz
  exact spawns_g hT hTl hTk hA hS hu hf hsp hlk hd hme hq hsm hok hm e1 (by simpa using h10) (by simpa using h11) (by simpa using h12) hz
end Go.Proofs.YtlpkccpijloidaaGreat
