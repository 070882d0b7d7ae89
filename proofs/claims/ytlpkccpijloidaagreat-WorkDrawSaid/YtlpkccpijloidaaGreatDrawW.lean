/- The walk of WorkDraw. -/
import Derived.Test.YtlpkccpijloidaaGreatWkL
import Derived.Deep.QuietTactic
import Derived.BigQuiet
namespace Go.Proofs.YtlpkccpijloidaaGreat
set_option maxRecDepth 100000
open Go.RowKit Go.Deep
theorem evx_later {w w' : World} {A : Option Addr} {l : List Evn} (h : Evx.Ir w.heap.size w A l) (hb : Below w.heap.size w w') : Evx.Ir w'.heap.size w' A l := (h.below hb).mono hb.size
theorem wsame_ne {S1 S2 : Option Addr} {c1 c2 : Nat} {w : World} {z z2 : WkS} {a b sp lk : Int} {s : List Fo.Itm} (hz : z = ⟨3, s, fbg 2 a 0, sp, lk⟩) (hz2 : z2 = ⟨3, s, fbg 2 b 0, sp, lk⟩) (hab : (a == b) = false) (hS : Fo.Ir w.heap.size w S1 z.stk) (hS2 : Fo.Ir w.heap.size w S2 z2.stk) (hl : z.stk.length ≤ 1000) : Tells 12 #[wv z (.slice S1 z.stk.length c1), wv z2 (.slice S2 z2.stk.length c2)] w (.bool false) := by
  subst hz hz2
  exact wsame_who hab hS hS2 hl
set_option maxHeartbeats 8000000 in
theorem draw_few {W D J S me d e : Int} {AT A SA : Option Addr} {ct c cs : Nat} {T : List Fo.Tsk} {x : WkS} {m : List Int} {w : World} (hT : Fo.Tk w.heap.size w AT T) (hTl : T.length ≤ maxLen) (hTk : ∀ y ∈ T, y.2.length ≤ maxLen) (hA : Rd w A m) (hS : Fo.Ir w.heap.size w SA x.stk) (hu : UM m) (hf : UF x.f) (hsp : I x.spins) (hlk : I x.look) (hd : U d) (he : U e) (hme : I me) (hq : (Fo.few T && decide ((x.stk.length : Int) ≤ 40)) = false) : Tells 5 #[cf W D J S, .slice AT T.length ct, .slice A m.length c, .int .i64 me, wv x (.slice SA x.stk.length cs), .int .u64 d, .int .u64 e] w (.bool true) := by
  have HT := Lib.hid hT
  have HTL := Lib.hid hTl
  have HTK := Lib.hid hTk
  have HA := Lib.hid hA
  have HS := Lib.hid hS
  have HU := Lib.hid hu
  have HF := Lib.hid hf
  have HSP := Lib.hid hsp
  have HLK := Lib.hid hlk
  have HME := Lib.hid hme
  have HDd := Lib.hid hd
  have HDe := Lib.hid he
  have H_hq := Lib.hid hq
  clear hT hTl hTk hA hS hu hf hsp hlk hme hd he hq
  have Z := Lib.hid ((bel_alloc w (.cells #[.int .i64 W, .int .i64 D, .int .i64 J, .int .i64 S] 23)).trans ((bel_alloc (w.alloc (.cells #[.int .i64 W, .int .i64 D, .int .i64 J, .int .i64 S] 23)) (.cells #[.int .i64 x.pc, .slice SA x.stk.length cs, .int .i64 x.f.op, .int .i64 x.f.pc, .int .i64 x.f.who, .int .u64 x.f.val, .int .u64 x.f.x, .int .u64 x.f.y, .int .i64 x.f.res, .int .i64 x.spins, .int .i64 x.look] 32)).mono (by simp)))
  have BX := Lib.hid ((Bx.mk w W D J S 23).below (bel_alloc _ (.cells #[.int .i64 x.pc, .slice SA x.stk.length cs, .int .i64 x.f.op, .int .i64 x.f.pc, .int .i64 x.f.who, .int .u64 x.f.val, .int .u64 x.f.x, .int .u64 x.f.y, .int .i64 x.f.res, .int .i64 x.spins, .int .i64 x.look] 32)))
  have BV := Lib.hid (Wvb.new1 (w.alloc (.cells #[.int .i64 W, .int .i64 D, .int .i64 J, .int .i64 S] 23)) (g := w.heap.size + 1) x (.slice SA x.stk.length cs) (by simp))
  go_enter Tryz.func5, Tryz.ntmps5
  go_wp2_with fail
  refine (wawake_any _).mono ?_
  rintro _ w1 ⟨rfl, zz⟩
  replace BX := Lib.hid (BX.out.below zz)
  replace BV := Lib.hid (BV.out.after zz)
  replace Z := Lib.hid (Z.out.trans (zz.mono Z.out.size))
  clear zz
  obtain ⟨_, e0, e1, e2, e3⟩ := BX.out
  obtain ⟨f0, f1, f2, f3, f4, f5, f6, f7, f8, f9, f10⟩ := BV.out.cells
  go_wp2_with fail
  refine (wfew_any (x := x) (HT.out.later Z.out) HTL.out HTK.out (q := false) H_hq.out).mono ?_
  rintro _ w2 ⟨rfl, zz⟩
  clear e0 e1 e2 e3 f0 f1 f2 f3 f4 f5 f6 f7 f8 f9 f10
  replace BX := Lib.hid (BX.out.below zz)
  replace BV := Lib.hid (BV.out.after zz)
  replace Z := Lib.hid (Z.out.trans (zz.mono Z.out.size))
  clear zz
  obtain ⟨_, e0, e1, e2, e3⟩ := BX.out
  obtain ⟨f0, f1, f2, f3, f4, f5, f6, f7, f8, f9, f10⟩ := BV.out.cells
  go_wp2
  go_ret
  exact ⟨rfl, Z.out⟩
set_option maxHeartbeats 8000000 in
theorem draw_big {W D J S me d e : Int} {AT A SA : Option Addr} {ct c cs : Nat} {T : List Fo.Tsk} {x : WkS} {m : List Int} {w : World} (hT : Fo.Tk w.heap.size w AT T) (hTl : T.length ≤ maxLen) (hTk : ∀ y ∈ T, y.2.length ≤ maxLen) (hA : Rd w A m) (hS : Fo.Ir w.heap.size w SA x.stk) (hu : UM m) (hf : UF x.f) (hsp : I x.spins) (hlk : I x.look) (hd : U d) (he : U e) (hme : I me) (hq : (Fo.few T && decide ((x.stk.length : Int) ≤ 40)) = true) (hb : 500 < m.length) : Tells 5 #[cf W D J S, .slice AT T.length ct, .slice A m.length c, .int .i64 me, wv x (.slice SA x.stk.length cs), .int .u64 d, .int .u64 e] w (.bool true) := by
  have hd5 : decide ((500 : Int) < (m.length : Int)) = true := decide_eq_true (by omega)
  have HT := Lib.hid hT
  have HTL := Lib.hid hTl
  have HTK := Lib.hid hTk
  have HA := Lib.hid hA
  have HS := Lib.hid hS
  have HU := Lib.hid hu
  have HF := Lib.hid hf
  have HSP := Lib.hid hsp
  have HLK := Lib.hid hlk
  have HME := Lib.hid hme
  have HDd := Lib.hid hd
  have HDe := Lib.hid he
  have H_hq := Lib.hid hq
  clear hT hTl hTk hA hS hu hf hsp hlk hme hd he hq
  have Z := Lib.hid ((bel_alloc w (.cells #[.int .i64 W, .int .i64 D, .int .i64 J, .int .i64 S] 23)).trans ((bel_alloc (w.alloc (.cells #[.int .i64 W, .int .i64 D, .int .i64 J, .int .i64 S] 23)) (.cells #[.int .i64 x.pc, .slice SA x.stk.length cs, .int .i64 x.f.op, .int .i64 x.f.pc, .int .i64 x.f.who, .int .u64 x.f.val, .int .u64 x.f.x, .int .u64 x.f.y, .int .i64 x.f.res, .int .i64 x.spins, .int .i64 x.look] 32)).mono (by simp)))
  have BX := Lib.hid ((Bx.mk w W D J S 23).below (bel_alloc _ (.cells #[.int .i64 x.pc, .slice SA x.stk.length cs, .int .i64 x.f.op, .int .i64 x.f.pc, .int .i64 x.f.who, .int .u64 x.f.val, .int .u64 x.f.x, .int .u64 x.f.y, .int .i64 x.f.res, .int .i64 x.spins, .int .i64 x.look] 32)))
  have BV := Lib.hid (Wvb.new1 (w.alloc (.cells #[.int .i64 W, .int .i64 D, .int .i64 J, .int .i64 S] 23)) (g := w.heap.size + 1) x (.slice SA x.stk.length cs) (by simp))
  go_enter Tryz.func5, Tryz.ntmps5
  go_wp2_with fail
  refine (wawake_any _).mono ?_
  rintro _ w1 ⟨rfl, zz⟩
  replace BX := Lib.hid (BX.out.below zz)
  replace BV := Lib.hid (BV.out.after zz)
  replace Z := Lib.hid (Z.out.trans (zz.mono Z.out.size))
  clear zz
  obtain ⟨_, e0, e1, e2, e3⟩ := BX.out
  obtain ⟨f0, f1, f2, f3, f4, f5, f6, f7, f8, f9, f10⟩ := BV.out.cells
  go_wp2_with fail
  refine (wfew_any (x := x) (HT.out.later Z.out) HTL.out HTK.out (q := true) H_hq.out).mono ?_
  rintro _ w2 ⟨rfl, zz⟩
  clear e0 e1 e2 e3 f0 f1 f2 f3 f4 f5 f6 f7 f8 f9 f10
  replace BX := Lib.hid (BX.out.below zz)
  replace BV := Lib.hid (BV.out.after zz)
  replace Z := Lib.hid (Z.out.trans (zz.mono Z.out.size))
  clear zz
  obtain ⟨_, e0, e1, e2, e3⟩ := BX.out
  obtain ⟨f0, f1, f2, f3, f4, f5, f6, f7, f8, f9, f10⟩ := BV.out.cells
  go_wp2
  go_ret
  exact ⟨rfl, Z.out⟩
set_option maxHeartbeats 8000000 in
theorem draw_same {W D J S me d e : Int} {AT A SA : Option Addr} {ct c cs : Nat} {T : List Fo.Tsk} {x : WkS} {m : List Int} {w : World} (hT : Fo.Tk w.heap.size w AT T) (hTl : T.length ≤ maxLen) (hTk : ∀ y ∈ T, y.2.length ≤ maxLen) (hA : Rd w A m) (hS : Fo.Ir w.heap.size w SA x.stk) (hu : UM m) (hf : UF x.f) (hsp : I x.spins) (hlk : I x.look) (hd : U d) (he : U e) (hme : I me) (hq : (Fo.few T && decide ((x.stk.length : Int) ≤ 40)) = true) (hsm : Fo.Sm T) (hok : m.length ≤ 500 ∧ x.stk.length ≤ 900) {m' : List Int} {z : WkS} {l' : List Evn} (hw : workS W D J S T m me x d = (m', z, l')) (hw2 : workS W D J S T m me x e = (m', z, l')) (hln : m'.length = m.length) (hev : l'.length ≤ 10) (hsl : z.stk.length ≤ 1000) : Tells 5 #[cf W D J S, .slice AT T.length ct, .slice A m.length c, .int .i64 me, wv x (.slice SA x.stk.length cs), .int .u64 d, .int .u64 e] w (.bool true) := by
  have hd5 : decide ((500 : Int) < (m.length : Int)) = false := decide_eq_false (by omega)
  have HT := Lib.hid hT
  have HTL := Lib.hid hTl
  have HTK := Lib.hid hTk
  have HA := Lib.hid hA
  have HS := Lib.hid hS
  have HU := Lib.hid hu
  have HF := Lib.hid hf
  have HSP := Lib.hid hsp
  have HLK := Lib.hid hlk
  have HME := Lib.hid hme
  have HDd := Lib.hid hd
  have HDe := Lib.hid he
  have H_hq := Lib.hid hq
  have H_hsm := Lib.hid hsm
  have H_hok := Lib.hid hok
  have H_hw := Lib.hid hw
  have H_hw2 := Lib.hid hw2
  have H_hln := Lib.hid hln
  have H_hev := Lib.hid hev
  have H_hsl := Lib.hid hsl
  clear hT hTl hTk hA hS hu hf hsp hlk hme hd he hq hsm hok hw hw2 hln hev hsl
  have Z := Lib.hid ((bel_alloc w (.cells #[.int .i64 W, .int .i64 D, .int .i64 J, .int .i64 S] 23)).trans ((bel_alloc (w.alloc (.cells #[.int .i64 W, .int .i64 D, .int .i64 J, .int .i64 S] 23)) (.cells #[.int .i64 x.pc, .slice SA x.stk.length cs, .int .i64 x.f.op, .int .i64 x.f.pc, .int .i64 x.f.who, .int .u64 x.f.val, .int .u64 x.f.x, .int .u64 x.f.y, .int .i64 x.f.res, .int .i64 x.spins, .int .i64 x.look] 32)).mono (by simp)))
  have BX := Lib.hid ((Bx.mk w W D J S 23).below (bel_alloc _ (.cells #[.int .i64 x.pc, .slice SA x.stk.length cs, .int .i64 x.f.op, .int .i64 x.f.pc, .int .i64 x.f.who, .int .u64 x.f.val, .int .u64 x.f.x, .int .u64 x.f.y, .int .i64 x.f.res, .int .i64 x.spins, .int .i64 x.look] 32)))
  have BV := Lib.hid (Wvb.new1 (w.alloc (.cells #[.int .i64 W, .int .i64 D, .int .i64 J, .int .i64 S] 23)) (g := w.heap.size + 1) x (.slice SA x.stk.length cs) (by simp))
  go_enter Tryz.func5, Tryz.ntmps5
  go_wp2_with fail
  refine (wawake_any _).mono ?_
  rintro _ w1 ⟨rfl, zz⟩
  replace BX := Lib.hid (BX.out.below zz)
  replace BV := Lib.hid (BV.out.after zz)
  replace Z := Lib.hid (Z.out.trans (zz.mono Z.out.size))
  clear zz
  obtain ⟨_, e0, e1, e2, e3⟩ := BX.out
  obtain ⟨f0, f1, f2, f3, f4, f5, f6, f7, f8, f9, f10⟩ := BV.out.cells
  go_wp2_with fail
  refine (wfew_any (x := x) (HT.out.later Z.out) HTL.out HTK.out (q := true) H_hq.out).mono ?_
  rintro _ w2 ⟨rfl, zz⟩
  clear e0 e1 e2 e3 f0 f1 f2 f3 f4 f5 f6 f7 f8 f9 f10
  replace BX := Lib.hid (BX.out.below zz)
  replace BV := Lib.hid (BV.out.after zz)
  replace Z := Lib.hid (Z.out.trans (zz.mono Z.out.size))
  clear zz
  obtain ⟨_, e0, e1, e2, e3⟩ := BX.out
  obtain ⟨f0, f1, f2, f3, f4, f5, f6, f7, f8, f9, f10⟩ := BV.out.cells
  go_wp2_with fail
  refine (wstep_n (HT.out.later Z.out) (HA.out.below Z.out) (HS.out.later Z.out) H_hsm.out H_hok.out HU.out HF.out HSP.out HLK.out HDd.out HME.out rfl H_hw.out).mono ?_
  rintro _ w3 ⟨A1, c1, S1, s1, E1, ce1, rfl, r1, r2, r3, zz⟩
  have HM1 := Lib.hid r1
  have HS1 := Lib.hid r2
  have HE1 := Lib.hid r3
  clear r1 r2 r3
  clear e0 e1 e2 e3 f0 f1 f2 f3 f4 f5 f6 f7 f8 f9 f10
  replace BX := Lib.hid (BX.out.below zz)
  replace BV := Lib.hid (BV.out.after zz)
  replace Z := Lib.hid (Z.out.trans (zz.mono Z.out.size))
  clear zz
  obtain ⟨_, e0, e1, e2, e3⟩ := BX.out
  obtain ⟨f0, f1, f2, f3, f4, f5, f6, f7, f8, f9, f10⟩ := BV.out.cells
  go_upto_region 6 with fail
  clear e0 e1 e2 e3 f0 f1 f2 f3 f4 f5 f6 f7 f8 f9 f10
  have zz := bel_alloc w3 (.cells #[.int .i64 z.pc, .slice S1 z.stk.length s1, .int .i64 z.f.op, .int .i64 z.f.pc, .int .i64 z.f.who, .int .u64 z.f.val, .int .u64 z.f.x, .int .u64 z.f.y, .int .i64 z.f.res, .int .i64 z.spins, .int .i64 z.look] 32)
  replace BX := Lib.hid (BX.out.below zz)
  replace BV := Lib.hid (BV.out.after zz)
  have BY := Lib.hid (Wvb.new w3 z (.slice S1 z.stk.length s1))
  replace HM1 := Lib.hid (HM1.out.below zz)
  replace HS1 := Lib.hid (HS1.out.later zz)
  replace HE1 := Lib.hid (evx_later HE1.out zz)
  replace Z := Lib.hid (Z.out.trans (zz.mono Z.out.size))
  clear zz
  have hgx1 : w3.heap.size = w3.heap.size := rfl
  generalize hv1 : w3.alloc (.cells #[.int .i64 z.pc, .slice S1 z.stk.length s1, .int .i64 z.f.op, .int .i64 z.f.pc, .int .i64 z.f.who, .int .u64 z.f.val, .int .u64 z.f.x, .int .u64 z.f.y, .int .i64 z.f.res, .int .i64 z.spins, .int .i64 z.look] 32) = v1 at *
  generalize w3.heap.size = g1 at *
  clear hv1 hgx1
  have Z4 := Lib.hid (Below.refl v1.heap.size v1)
  obtain ⟨_, e0, e1, e2, e3⟩ := BX.out
  obtain ⟨f0, f1, f2, f3, f4, f5, f6, f7, f8, f9, f10⟩ := BV.out.cells
  obtain ⟨g0, g1, g2, g3, g4, g5, g6, g7, g8, g9, g10⟩ := BY.out.cells
  have hlg := BY.out.lt
  go_wp2_with fail
  refine (wstep_n (HT.out.later Z.out) (HA.out.below Z.out) (HS.out.later Z.out) H_hsm.out H_hok.out HU.out HF.out HSP.out HLK.out HDe.out HME.out rfl H_hw2.out).mono ?_
  rintro _ w4 ⟨A2, c2, S2, s2, E2, ce2, rfl, r1, r2, r3, zz⟩
  have HM2 := Lib.hid r1
  have HS2 := Lib.hid r2
  have HE2 := Lib.hid r3
  clear r1 r2 r3
  clear e0 e1 e2 e3 f0 f1 f2 f3 f4 f5 f6 f7 f8 f9 f10 g0 g1 g2 g3 g4 g5 g6 g7 g8 g9 g10 hlg
  replace BX := Lib.hid (BX.out.below zz)
  replace BV := Lib.hid (BV.out.after zz)
  replace BY := Lib.hid (BY.out.after zz)
  replace Z4 := Lib.hid (Z4.out.trans (zz.mono Z4.out.size))
  replace Z := Lib.hid (Z.out.trans (zz.mono Z.out.size))
  clear zz
  obtain ⟨_, e0, e1, e2, e3⟩ := BX.out
  obtain ⟨f0, f1, f2, f3, f4, f5, f6, f7, f8, f9, f10⟩ := BV.out.cells
  obtain ⟨g0, g1, g2, g3, g4, g5, g6, g7, g8, g9, g10⟩ := BY.out.cells
  have hlg := BY.out.lt
  go_upto_region 7 with fail
  clear e0 e1 e2 e3 f0 f1 f2 f3 f4 f5 f6 f7 f8 f9 f10 g0 g1 g2 g3 g4 g5 g6 g7 g8 g9 g10 hlg
  have zz := bel_alloc w4 (.cells #[.int .i64 z.pc, .slice S2 z.stk.length s2, .int .i64 z.f.op, .int .i64 z.f.pc, .int .i64 z.f.who, .int .u64 z.f.val, .int .u64 z.f.x, .int .u64 z.f.y, .int .i64 z.f.res, .int .i64 z.spins, .int .i64 z.look] 32)
  replace BX := Lib.hid (BX.out.below zz)
  replace BV := Lib.hid (BV.out.after zz)
  replace BY := Lib.hid (BY.out.after zz)
  have BQ := Lib.hid (Wvb.new w4 z (.slice S2 z.stk.length s2))
  replace HM2 := Lib.hid (HM2.out.below zz)
  replace HS2 := Lib.hid (HS2.out.later zz)
  replace HE2 := Lib.hid (evx_later HE2.out zz)
  replace Z := Lib.hid (Z.out.trans (zz.mono Z.out.size))
  replace Z4 := Lib.hid (Z4.out.trans (zz.mono Z4.out.size))
  replace HM1 := Lib.hid (HM1.out.below Z4.out)
  replace HS1 := Lib.hid (HS1.out.later Z4.out)
  replace HE1 := Lib.hid (evx_later HE1.out Z4.out)
  clear zz
  have hgx2 : w4.heap.size = w4.heap.size := rfl
  generalize hv2 : w4.alloc (.cells #[.int .i64 z.pc, .slice S2 z.stk.length s2, .int .i64 z.f.op, .int .i64 z.f.pc, .int .i64 z.f.who, .int .u64 z.f.val, .int .u64 z.f.x, .int .u64 z.f.y, .int .i64 z.f.res, .int .i64 z.spins, .int .i64 z.look] 32) = v2 at *
  generalize w4.heap.size = g2 at *
  clear hv2 hgx2
  replace Z4 := Lib.hid (Below.refl v2.heap.size v2)
  obtain ⟨_, e0, e1, e2, e3⟩ := BX.out
  obtain ⟨f0, f1, f2, f3, f4, f5, f6, f7, f8, f9, f10⟩ := BV.out.cells
  obtain ⟨g0, g1, g2, g3, g4, g5, g6, g7, g8, g9, g10⟩ := BY.out.cells
  have hlg := BY.out.lt
  obtain ⟨k0, k1, k2, k3, k4, k5, k6, k7, k8, k9, k10⟩ := BQ.out.cells
  have hlk := BQ.out.lt
  go_wp2
  go_loopw [23] (fun i wr => ∃ j : Nat, i = .int .i64 j ∧ j ≤ m.length ∧ Hid (Below v2.heap.size v2 wr)) (fun i _ => m.length - (intOf i).toNat)
  case atStart => exact ⟨0, rfl, Nat.zero_le _, Lib.hid (Below.refl _ _)⟩
  case round =>
    obtain ⟨j, rfl, hj, HZ⟩ := hrel
    have hj5 := H_hok.out.1
    by_cases hlt : j < m.length
    · have hln := H_hln.out
      obtain ⟨ad, rfl, adb, adc⟩ := (HM1.out.below HZ.out) (by omega)
      have k1 := adc j _ (List.getElem?_eq_getElem (show j < m'.length by omega))
      obtain ⟨ae, rfl, aeb, aec⟩ := (HM2.out.below HZ.out) (by omega)
      have k2 := aec j _ (List.getElem?_eq_getElem (show j < m'.length by omega))
      obtain ⟨u, hu⟩ : ∃ u, m'[j]'(by omega) = u := ⟨_, rfl⟩
      rw [hu] at k1 k2
      have hjl : (j : Int) < (m.length : Int) := by omega
      clear hu adc aec adb aeb hln
      go_wp2_with fail
      go_quiet (fail)
      go_wp2
      go_roundw
      case rel => exact ⟨j + 1, by go_num, by omega, Lib.hid (HZ.out.trans ((below_drewN _ _).mono HZ.out.size))⟩
      case measure => simp [intOf]; omega
    · obtain rfl : j = m.length := by omega
      have zz := HZ.out
      clear e0 e1 e2 e3 f0 f1 f2 f3 f4 f5 f6 f7 f8 f9 f10 g0 g1 g2 g3 g4 g5 g6 g7 g8 g9 g10 hlg k0 k1 k2 k3 k4 k5 k6 k7 k8 k9 k10 hlk
      replace BX := Lib.hid (BX.out.below zz)
      replace BV := Lib.hid (BV.out.after zz)
      replace BY := Lib.hid (BY.out.after zz)
      replace BQ := Lib.hid (BQ.out.after zz)
      replace Z4 := Lib.hid (Z4.out.trans (zz.mono Z4.out.size))
      replace Z := Lib.hid (Z.out.trans (zz.mono Z.out.size))
      have hdl : decide ((m.length : Int) < (m.length : Int)) = false := decide_eq_false (by omega)
      clear zz
      obtain ⟨_, e0, e1, e2, e3⟩ := BX.out
      obtain ⟨f0, f1, f2, f3, f4, f5, f6, f7, f8, f9, f10⟩ := BV.out.cells
      obtain ⟨g0, g1, g2, g3, g4, g5, g6, g7, g8, g9, g10⟩ := BY.out.cells
      have hlg := BY.out.lt
      obtain ⟨k0, k1, k2, k3, k4, k5, k6, k7, k8, k9, k10⟩ := BQ.out.cells
      have hlk := BQ.out.lt
      go_wp2_with fail
      refine (revs_eq (evx_later HE1.out Z4.out) (evx_later HE2.out Z4.out) H_hev.out).mono ?_
      rintro _ w5 ⟨rfl, zz⟩
      clear e0 e1 e2 e3 f0 f1 f2 f3 f4 f5 f6 f7 f8 f9 f10 g0 g1 g2 g3 g4 g5 g6 g7 g8 g9 g10 hlg k0 k1 k2 k3 k4 k5 k6 k7 k8 k9 k10 hlk
      replace BX := Lib.hid (BX.out.below zz)
      replace BV := Lib.hid (BV.out.after zz)
      replace BY := Lib.hid (BY.out.after zz)
      replace BQ := Lib.hid (BQ.out.after zz)
      replace Z4 := Lib.hid (Z4.out.trans (zz.mono Z4.out.size))
      replace Z := Lib.hid (Z.out.trans (zz.mono Z.out.size))
      clear zz
      obtain ⟨_, e0, e1, e2, e3⟩ := BX.out
      obtain ⟨f0, f1, f2, f3, f4, f5, f6, f7, f8, f9, f10⟩ := BV.out.cells
      obtain ⟨g0, g1, g2, g3, g4, g5, g6, g7, g8, g9, g10⟩ := BY.out.cells
      have hlg := BY.out.lt
      obtain ⟨k0, k1, k2, k3, k4, k5, k6, k7, k8, k9, k10⟩ := BQ.out.cells
      have hlk := BQ.out.lt
      go_wp2_with fail
      refine (wsame_eq (x := z) (HS1.out.later Z4.out) (HS2.out.later Z4.out) H_hsl.out).mono ?_
      rintro _ w6 ⟨rfl, zz⟩
      clear e0 e1 e2 e3 f0 f1 f2 f3 f4 f5 f6 f7 f8 f9 f10 g0 g1 g2 g3 g4 g5 g6 g7 g8 g9 g10 hlg k0 k1 k2 k3 k4 k5 k6 k7 k8 k9 k10 hlk
      replace BX := Lib.hid (BX.out.below zz)
      replace BV := Lib.hid (BV.out.after zz)
      replace BY := Lib.hid (BY.out.after zz)
      replace BQ := Lib.hid (BQ.out.after zz)
      replace Z4 := Lib.hid (Z4.out.trans (zz.mono Z4.out.size))
      replace Z := Lib.hid (Z.out.trans (zz.mono Z.out.size))
      clear zz
      obtain ⟨_, e0, e1, e2, e3⟩ := BX.out
      obtain ⟨f0, f1, f2, f3, f4, f5, f6, f7, f8, f9, f10⟩ := BV.out.cells
      obtain ⟨g0, g1, g2, g3, g4, g5, g6, g7, g8, g9, g10⟩ := BY.out.cells
      have hlg := BY.out.lt
      obtain ⟨k0, k1, k2, k3, k4, k5, k6, k7, k8, k9, k10⟩ := BQ.out.cells
      have hlk := BQ.out.lt
      go_wp2
      go_ret
      exact ⟨rfl, Z.out⟩
set_option maxHeartbeats 8000000 in
theorem draw_who {W D J S me d e : Int} {AT A SA : Option Addr} {ct c cs : Nat} {T : List Fo.Tsk} {x : WkS} {m : List Int} {w : World} (hT : Fo.Tk w.heap.size w AT T) (hTl : T.length ≤ maxLen) (hTk : ∀ y ∈ T, y.2.length ≤ maxLen) (hA : Rd w A m) (hS : Fo.Ir w.heap.size w SA x.stk) (hu : UM m) (hf : UF x.f) (hsp : I x.spins) (hlk : I x.look) (hd : U d) (he : U e) (hme : I me) (hq : (Fo.few T && decide ((x.stk.length : Int) ≤ 40)) = true) (hsm : Fo.Sm T) (hok : m.length ≤ 500 ∧ x.stk.length ≤ 900) {m' : List Int} {z z2 : WkS} {l' : List Evn} (hw : workS W D J S T m me x d = (m', z, l')) (hw2 : workS W D J S T m me x e = (m', z2, l')) (hln : m'.length = m.length) (hev : l'.length ≤ 10) (hsl : z.stk.length ≤ 1000) {a b sp lk : Int} {s : List Fo.Itm} (hz : z = ⟨3, s, fbg 2 a 0, sp, lk⟩) (hz2 : z2 = ⟨3, s, fbg 2 b 0, sp, lk⟩) (ha : a ≠ me) (hb : b ≠ me) (hab : a ≠ b) (hpc : x.pc = 2) : Tells 5 #[cf W D J S, .slice AT T.length ct, .slice A m.length c, .int .i64 me, wv x (.slice SA x.stk.length cs), .int .u64 d, .int .u64 e] w (.bool true) := by
  have hd5 : decide ((500 : Int) < (m.length : Int)) = false := decide_eq_false (by omega)
  have ha2 : (a != me) = true := by simpa using ha
  have hb2 : (b != me) = true := by simpa using hb
  have hab2 : (a != b) = true := by simpa using hab
  have HAB := Lib.hid (show (a == b) = false by simpa using hab)
  have HPC := Lib.hid hpc
  clear ha hb hab hpc
  have HT := Lib.hid hT
  have HTL := Lib.hid hTl
  have HTK := Lib.hid hTk
  have HA := Lib.hid hA
  have HS := Lib.hid hS
  have HU := Lib.hid hu
  have HF := Lib.hid hf
  have HSP := Lib.hid hsp
  have HLK := Lib.hid hlk
  have HME := Lib.hid hme
  have HDd := Lib.hid hd
  have HDe := Lib.hid he
  have H_hq := Lib.hid hq
  have H_hsm := Lib.hid hsm
  have H_hok := Lib.hid hok
  have H_hw := Lib.hid hw
  have H_hw2 := Lib.hid hw2
  have H_hln := Lib.hid hln
  have H_hev := Lib.hid hev
  have H_hsl := Lib.hid hsl
  have H_hz := Lib.hid hz
  have H_hz2 := Lib.hid hz2
  clear hT hTl hTk hA hS hu hf hsp hlk hme hd he hq hsm hok hw hw2 hln hev hsl hz hz2
  have Z := Lib.hid ((bel_alloc w (.cells #[.int .i64 W, .int .i64 D, .int .i64 J, .int .i64 S] 23)).trans ((bel_alloc (w.alloc (.cells #[.int .i64 W, .int .i64 D, .int .i64 J, .int .i64 S] 23)) (.cells #[.int .i64 x.pc, .slice SA x.stk.length cs, .int .i64 x.f.op, .int .i64 x.f.pc, .int .i64 x.f.who, .int .u64 x.f.val, .int .u64 x.f.x, .int .u64 x.f.y, .int .i64 x.f.res, .int .i64 x.spins, .int .i64 x.look] 32)).mono (by simp)))
  have BX := Lib.hid ((Bx.mk w W D J S 23).below (bel_alloc _ (.cells #[.int .i64 x.pc, .slice SA x.stk.length cs, .int .i64 x.f.op, .int .i64 x.f.pc, .int .i64 x.f.who, .int .u64 x.f.val, .int .u64 x.f.x, .int .u64 x.f.y, .int .i64 x.f.res, .int .i64 x.spins, .int .i64 x.look] 32)))
  have BV := Lib.hid (Wvb.new1 (w.alloc (.cells #[.int .i64 W, .int .i64 D, .int .i64 J, .int .i64 S] 23)) (g := w.heap.size + 1) x (.slice SA x.stk.length cs) (by simp))
  go_enter Tryz.func5, Tryz.ntmps5
  go_wp2_with fail
  refine (wawake_any _).mono ?_
  rintro _ w1 ⟨rfl, zz⟩
  replace BX := Lib.hid (BX.out.below zz)
  replace BV := Lib.hid (BV.out.after zz)
  replace Z := Lib.hid (Z.out.trans (zz.mono Z.out.size))
  clear zz
  obtain ⟨_, e0, e1, e2, e3⟩ := BX.out
  obtain ⟨f0, f1, f2, f3, f4, f5, f6, f7, f8, f9, f10⟩ := BV.out.cells
  go_wp2_with fail
  refine (wfew_any (x := x) (HT.out.later Z.out) HTL.out HTK.out (q := true) H_hq.out).mono ?_
  rintro _ w2 ⟨rfl, zz⟩
  clear e0 e1 e2 e3 f0 f1 f2 f3 f4 f5 f6 f7 f8 f9 f10
  replace BX := Lib.hid (BX.out.below zz)
  replace BV := Lib.hid (BV.out.after zz)
  replace Z := Lib.hid (Z.out.trans (zz.mono Z.out.size))
  clear zz
  obtain ⟨_, e0, e1, e2, e3⟩ := BX.out
  obtain ⟨f0, f1, f2, f3, f4, f5, f6, f7, f8, f9, f10⟩ := BV.out.cells
  go_wp2_with fail
  refine (wstep_n (HT.out.later Z.out) (HA.out.below Z.out) (HS.out.later Z.out) H_hsm.out H_hok.out HU.out HF.out HSP.out HLK.out HDd.out HME.out rfl H_hw.out).mono ?_
  rintro _ w3 ⟨A1, c1, S1, s1, E1, ce1, rfl, r1, r2, r3, zz⟩
  have HM1 := Lib.hid r1
  have HS1 := Lib.hid r2
  have HE1 := Lib.hid r3
  clear r1 r2 r3
  clear e0 e1 e2 e3 f0 f1 f2 f3 f4 f5 f6 f7 f8 f9 f10
  replace BX := Lib.hid (BX.out.below zz)
  replace BV := Lib.hid (BV.out.after zz)
  replace Z := Lib.hid (Z.out.trans (zz.mono Z.out.size))
  clear zz
  obtain ⟨_, e0, e1, e2, e3⟩ := BX.out
  obtain ⟨f0, f1, f2, f3, f4, f5, f6, f7, f8, f9, f10⟩ := BV.out.cells
  go_upto_region 6 with fail
  clear e0 e1 e2 e3 f0 f1 f2 f3 f4 f5 f6 f7 f8 f9 f10
  have zz := bel_alloc w3 (.cells #[.int .i64 z.pc, .slice S1 z.stk.length s1, .int .i64 z.f.op, .int .i64 z.f.pc, .int .i64 z.f.who, .int .u64 z.f.val, .int .u64 z.f.x, .int .u64 z.f.y, .int .i64 z.f.res, .int .i64 z.spins, .int .i64 z.look] 32)
  replace BX := Lib.hid (BX.out.below zz)
  replace BV := Lib.hid (BV.out.after zz)
  have BY := Lib.hid (Wvb.new w3 z (.slice S1 z.stk.length s1))
  replace HM1 := Lib.hid (HM1.out.below zz)
  replace HS1 := Lib.hid (HS1.out.later zz)
  replace HE1 := Lib.hid (evx_later HE1.out zz)
  replace Z := Lib.hid (Z.out.trans (zz.mono Z.out.size))
  clear zz
  have hgx1 : w3.heap.size = w3.heap.size := rfl
  generalize hv1 : w3.alloc (.cells #[.int .i64 z.pc, .slice S1 z.stk.length s1, .int .i64 z.f.op, .int .i64 z.f.pc, .int .i64 z.f.who, .int .u64 z.f.val, .int .u64 z.f.x, .int .u64 z.f.y, .int .i64 z.f.res, .int .i64 z.spins, .int .i64 z.look] 32) = v1 at *
  generalize w3.heap.size = g1 at *
  clear hv1 hgx1
  have Z4 := Lib.hid (Below.refl v1.heap.size v1)
  obtain ⟨_, e0, e1, e2, e3⟩ := BX.out
  obtain ⟨f0, f1, f2, f3, f4, f5, f6, f7, f8, f9, f10⟩ := BV.out.cells
  obtain ⟨g0, g1, g2, g3, g4, g5, g6, g7, g8, g9, g10⟩ := BY.out.cells
  have hlg := BY.out.lt
  go_wp2_with fail
  refine (wstep_n (HT.out.later Z.out) (HA.out.below Z.out) (HS.out.later Z.out) H_hsm.out H_hok.out HU.out HF.out HSP.out HLK.out HDe.out HME.out rfl H_hw2.out).mono ?_
  rintro _ w4 ⟨A2, c2, S2, s2, E2, ce2, rfl, r1, r2, r3, zz⟩
  have HM2 := Lib.hid r1
  have HS2 := Lib.hid r2
  have HE2 := Lib.hid r3
  clear r1 r2 r3
  clear e0 e1 e2 e3 f0 f1 f2 f3 f4 f5 f6 f7 f8 f9 f10 g0 g1 g2 g3 g4 g5 g6 g7 g8 g9 g10 hlg
  replace BX := Lib.hid (BX.out.below zz)
  replace BV := Lib.hid (BV.out.after zz)
  replace BY := Lib.hid (BY.out.after zz)
  replace Z4 := Lib.hid (Z4.out.trans (zz.mono Z4.out.size))
  replace Z := Lib.hid (Z.out.trans (zz.mono Z.out.size))
  clear zz
  obtain ⟨_, e0, e1, e2, e3⟩ := BX.out
  obtain ⟨f0, f1, f2, f3, f4, f5, f6, f7, f8, f9, f10⟩ := BV.out.cells
  obtain ⟨g0, g1, g2, g3, g4, g5, g6, g7, g8, g9, g10⟩ := BY.out.cells
  have hlg := BY.out.lt
  go_upto_region 7 with fail
  clear e0 e1 e2 e3 f0 f1 f2 f3 f4 f5 f6 f7 f8 f9 f10 g0 g1 g2 g3 g4 g5 g6 g7 g8 g9 g10 hlg
  have zz := bel_alloc w4 (.cells #[.int .i64 z2.pc, .slice S2 z2.stk.length s2, .int .i64 z2.f.op, .int .i64 z2.f.pc, .int .i64 z2.f.who, .int .u64 z2.f.val, .int .u64 z2.f.x, .int .u64 z2.f.y, .int .i64 z2.f.res, .int .i64 z2.spins, .int .i64 z2.look] 32)
  replace BX := Lib.hid (BX.out.below zz)
  replace BV := Lib.hid (BV.out.after zz)
  replace BY := Lib.hid (BY.out.after zz)
  have BQ := Lib.hid (Wvb.new w4 z2 (.slice S2 z2.stk.length s2))
  replace HM2 := Lib.hid (HM2.out.below zz)
  replace HS2 := Lib.hid (HS2.out.later zz)
  replace HE2 := Lib.hid (evx_later HE2.out zz)
  replace Z := Lib.hid (Z.out.trans (zz.mono Z.out.size))
  replace Z4 := Lib.hid (Z4.out.trans (zz.mono Z4.out.size))
  replace HM1 := Lib.hid (HM1.out.below Z4.out)
  replace HS1 := Lib.hid (HS1.out.later Z4.out)
  replace HE1 := Lib.hid (evx_later HE1.out Z4.out)
  clear zz
  have hgx2 : w4.heap.size = w4.heap.size := rfl
  generalize hv2 : w4.alloc (.cells #[.int .i64 z2.pc, .slice S2 z2.stk.length s2, .int .i64 z2.f.op, .int .i64 z2.f.pc, .int .i64 z2.f.who, .int .u64 z2.f.val, .int .u64 z2.f.x, .int .u64 z2.f.y, .int .i64 z2.f.res, .int .i64 z2.spins, .int .i64 z2.look] 32) = v2 at *
  generalize w4.heap.size = g2 at *
  clear hv2 hgx2
  replace Z4 := Lib.hid (Below.refl v2.heap.size v2)
  obtain ⟨_, e0, e1, e2, e3⟩ := BX.out
  obtain ⟨f0, f1, f2, f3, f4, f5, f6, f7, f8, f9, f10⟩ := BV.out.cells
  obtain ⟨g0, g1, g2, g3, g4, g5, g6, g7, g8, g9, g10⟩ := BY.out.cells
  have hlg := BY.out.lt
  obtain ⟨k0, k1, k2, k3, k4, k5, k6, k7, k8, k9, k10⟩ := BQ.out.cells
  have hlk := BQ.out.lt
  go_wp2
  go_loopw [23] (fun i wr => ∃ j : Nat, i = .int .i64 j ∧ j ≤ m.length ∧ Hid (Below v2.heap.size v2 wr)) (fun i _ => m.length - (intOf i).toNat)
  case atStart => exact ⟨0, rfl, Nat.zero_le _, Lib.hid (Below.refl _ _)⟩
  case round =>
    obtain ⟨j, rfl, hj, HZ⟩ := hrel
    have hj5 := H_hok.out.1
    by_cases hlt : j < m.length
    · have hln := H_hln.out
      obtain ⟨ad, rfl, adb, adc⟩ := (HM1.out.below HZ.out) (by omega)
      have k1 := adc j _ (List.getElem?_eq_getElem (show j < m'.length by omega))
      obtain ⟨ae, rfl, aeb, aec⟩ := (HM2.out.below HZ.out) (by omega)
      have k2 := aec j _ (List.getElem?_eq_getElem (show j < m'.length by omega))
      obtain ⟨u, hu⟩ : ∃ u, m'[j]'(by omega) = u := ⟨_, rfl⟩
      rw [hu] at k1 k2
      have hjl : (j : Int) < (m.length : Int) := by omega
      clear hu adc aec adb aeb hln
      go_wp2_with fail
      go_quiet (fail)
      go_wp2
      go_roundw
      case rel => exact ⟨j + 1, by go_num, by omega, Lib.hid (HZ.out.trans ((below_drewN _ _).mono HZ.out.size))⟩
      case measure => simp [intOf]; omega
    · obtain rfl : j = m.length := by omega
      have zz := HZ.out
      clear e0 e1 e2 e3 f0 f1 f2 f3 f4 f5 f6 f7 f8 f9 f10 g0 g1 g2 g3 g4 g5 g6 g7 g8 g9 g10 hlg k0 k1 k2 k3 k4 k5 k6 k7 k8 k9 k10 hlk
      replace BX := Lib.hid (BX.out.below zz)
      replace BV := Lib.hid (BV.out.after zz)
      replace BY := Lib.hid (BY.out.after zz)
      replace BQ := Lib.hid (BQ.out.after zz)
      replace Z4 := Lib.hid (Z4.out.trans (zz.mono Z4.out.size))
      replace Z := Lib.hid (Z.out.trans (zz.mono Z.out.size))
      have hdl : decide ((m.length : Int) < (m.length : Int)) = false := decide_eq_false (by omega)
      clear zz
      obtain ⟨_, e0, e1, e2, e3⟩ := BX.out
      obtain ⟨f0, f1, f2, f3, f4, f5, f6, f7, f8, f9, f10⟩ := BV.out.cells
      obtain ⟨g0, g1, g2, g3, g4, g5, g6, g7, g8, g9, g10⟩ := BY.out.cells
      have hlg := BY.out.lt
      obtain ⟨k0, k1, k2, k3, k4, k5, k6, k7, k8, k9, k10⟩ := BQ.out.cells
      have hlk := BQ.out.lt
      go_wp2_with fail
      refine (revs_eq (evx_later HE1.out Z4.out) (evx_later HE2.out Z4.out) H_hev.out).mono ?_
      rintro _ w5 ⟨rfl, zz⟩
      clear e0 e1 e2 e3 f0 f1 f2 f3 f4 f5 f6 f7 f8 f9 f10 g0 g1 g2 g3 g4 g5 g6 g7 g8 g9 g10 hlg k0 k1 k2 k3 k4 k5 k6 k7 k8 k9 k10 hlk
      replace BX := Lib.hid (BX.out.below zz)
      replace BV := Lib.hid (BV.out.after zz)
      replace BY := Lib.hid (BY.out.after zz)
      replace BQ := Lib.hid (BQ.out.after zz)
      replace Z4 := Lib.hid (Z4.out.trans (zz.mono Z4.out.size))
      replace Z := Lib.hid (Z.out.trans (zz.mono Z.out.size))
      clear zz
      obtain ⟨_, e0, e1, e2, e3⟩ := BX.out
      obtain ⟨f0, f1, f2, f3, f4, f5, f6, f7, f8, f9, f10⟩ := BV.out.cells
      obtain ⟨g0, g1, g2, g3, g4, g5, g6, g7, g8, g9, g10⟩ := BY.out.cells
      have hlg := BY.out.lt
      obtain ⟨k0, k1, k2, k3, k4, k5, k6, k7, k8, k9, k10⟩ := BQ.out.cells
      have hlk := BQ.out.lt
      go_wp2_with fail
      refine (wsame_ne H_hz.out H_hz2.out HAB.out (HS1.out.later Z4.out) (HS2.out.later Z4.out) H_hsl.out).mono ?_
      rintro _ w6 ⟨rfl, zz⟩
      clear e0 e1 e2 e3 f0 f1 f2 f3 f4 f5 f6 f7 f8 f9 f10 g0 g1 g2 g3 g4 g5 g6 g7 g8 g9 g10 hlg k0 k1 k2 k3 k4 k5 k6 k7 k8 k9 k10 hlk
      replace BX := Lib.hid (BX.out.below zz)
      replace BV := Lib.hid (BV.out.after zz)
      replace BY := Lib.hid (BY.out.after zz)
      replace BQ := Lib.hid (BQ.out.after zz)
      replace Z4 := Lib.hid (Z4.out.trans (zz.mono Z4.out.size))
      replace Z := Lib.hid (Z.out.trans (zz.mono Z.out.size))
      clear zz
      obtain ⟨_, e0, e1, e2, e3⟩ := BX.out
      obtain ⟨f0, f1, f2, f3, f4, f5, f6, f7, f8, f9, f10⟩ := BV.out.cells
      obtain ⟨g0, g1, g2, g3, g4, g5, g6, g7, g8, g9, g10⟩ := BY.out.cells
      have hlg := BY.out.lt
      obtain ⟨k0, k1, k2, k3, k4, k5, k6, k7, k8, k9, k10⟩ := BQ.out.cells
      have hlk := BQ.out.lt
      have q1 := H_hz.out
      have q2 := H_hz2.out
      have q3 := HPC.out
      subst q1 q2
      simp only [fbg] at g0 g1 g2 g3 g4 g5 g6 g7 g8 g9 g10 k0 k1 k2 k3 k4 k5 k6 k7 k8 k9 k10
      go_wp2
      go_ret
      exact ⟨rfl, Z.out⟩
set_option maxHeartbeats 8000000 in
theorem draw_all {W D J S me d e : Int} {AT A SA : Option Addr} {ct c cs : Nat} {T : List Fo.Tsk} {x : WkS} {m : List Int} {w : World} (hT : Fo.Tk w.heap.size w AT T) (hTl : T.length ≤ maxLen) (hTk : ∀ y ∈ T, y.2.length ≤ maxLen) (hA : Rd w A m) (hS : Fo.Ir w.heap.size w SA x.stk) (hu : UM m) (hf : UF x.f) (hsp : I x.spins) (hlk : I x.look) (hd : U d) (he : U e) (hme : I me) : Tells 5 #[cf W D J S, .slice AT T.length ct, .slice A m.length c, .int .i64 me, wv x (.slice SA x.stk.length cs), .int .u64 d, .int .u64 e] w (.bool true) := by
  cases hq : (Fo.few T && decide ((x.stk.length : Int) ≤ 40))
  · exact draw_few hT hTl hTk hA hS hu hf hsp hlk hd he hme hq
  by_cases hb : 500 < m.length
  · exact draw_big hT hTl hTk hA hS hu hf hsp hlk hd he hme hq hb
  obtain ⟨hq1, hq2⟩ : Fo.few T = true ∧ (x.stk.length : Int) ≤ 40 := by simpa using hq
  have hsm := Fo.few_sm hq1
  have hok : m.length ≤ 500 ∧ x.stk.length ≤ 900 := ⟨by omega, by omega⟩
  cases hm : mayW W D J S T m me x
  · exact draw_same hT hTl hTk hA hS hu hf hsp hlk hd he hme hq hsm hok (workS_no hm) (workS_no hm) rfl (by simp) (by omega)
  · have o := stepW_ok (d := d) hm
    have q := stk_le (d := d) hm hok.2
    have e1 : workS W D J S T m me x d = ((stepW W D J S T m me x d).1, (stepW W D J S T m me x d).2.1, (stepW W D J S T m me x d).2.2) := by unfold workS; rw [if_pos hm]
    have e2 : workS W D J S T m me x e = ((stepW W D J S T m me x e).1, (stepW W D J S T m me x e).2.1, (stepW W D J S T m me x e).2.2) := by unfold workS; rw [if_pos hm]
    obtain ⟨h1, h2, h3⟩ := draw_W (d := d) (e := e) hm
    rw [← h1, ← h2] at e2
    rcases h3 with h3 | ⟨hp, a, b, s, sp, lk, ha, hb, hab, h4, h5⟩
    · rw [← h3] at e2
      exact draw_same hT hTl hTk hA hS hu hf hsp hlk hd he hme hq hsm hok e1 e2 o.len (by have := o.evs; omega) q
    · exact draw_who hT hTl hTk hA hS hu hf hsp hlk hd he hme hq hsm hok e1 e2 o.len (by have := o.evs; omega) q h4 h5 ha hb hab hp
end Go.Proofs.YtlpkccpijloidaaGreat
