/- The walk of WorkCounts. -/
import Derived.Test.YtlpkccpijloidaaGreatWkL
import Derived.Deep.QuietTactic
import Derived.BigQuiet
import Derived.Deep.CutRange
import Derived.Deep.DeepCutAuto
namespace Go.Proofs.YtlpkccpijloidaaGreat
set_option maxRecDepth 100000
open Go.RowKit Go.Deep
theorem evx_later {w w' : World} {A : Option Addr} {l : List Evn} (h : Evx.Ir w.heap.size w A l) (hb : Below w.heap.size w w') : Evx.Ir w'.heap.size w' A l := (h.below hb).mono hb.size
/-- What is pending behind the first events. -/
def pdW (p : Int) (l : List Evn) (j : Nat) : Int := (p + cntE 3 (l.take j) - cntE 4 (l.take j)) % 18446744073709551616
theorem cntE_app (k : Int) (l : List Evn) (e : Evn) : cntE k (l ++ [e]) = cntE k l + if e.1 = k then 1 else 0 := by
  induction l with
  | nil => simp [cntE]
  | cons a l ih => simp only [List.cons_append, cntE, ih]; omega
theorem pdW_succ {p : Int} {l : List Evn} {j : Nat} (h : j < l.length) : pdW p l (j + 1) = (pdW p l j + (if l[j].1 = 3 then 1 else 0) - (if l[j].1 = 4 then 1 else 0)) % 18446744073709551616 := by
  unfold pdW
  rw [List.take_add_one, List.getElem?_eq_getElem h]
  simp only [Option.toList, cntE_app]
  split <;> split <;> omega
theorem anyE_succ {k : Int} {l : List Evn} {j : Nat} (h : j < l.length) : anyE k (l.take (j + 1)) = (anyE k (l.take j) || (l[j].1 == k)) := by
  have e : l.take (j + 1) = l.take j ++ [l[j]] := by rw [List.take_add_one, List.getElem?_eq_getElem h]; rfl
  rw [e]
  unfold anyE
  rw [List.any_append]
  simp
theorem pdW_zero {p : Int} {l : List Evn} (h : U p) : pdW p l 0 = p := by
  unfold pdW U at *
  simp only [List.take_zero, cntE]
  omega
set_option maxHeartbeats 8000000 in
theorem counts_few {W D J S me d : Int} {AT A SA : Option Addr} {ct c cs : Nat} {T : List Fo.Tsk} {x : WkS} {m : List Int} {w : World} (hT : Fo.Tk w.heap.size w AT T) (hTl : T.length ≤ maxLen) (hTk : ∀ y ∈ T, y.2.length ≤ maxLen) (hA : Rd w A m) (hS : Fo.Ir w.heap.size w SA x.stk) (hu : UM m) (hf : UF x.f) (hsp : I x.spins) (hlk : I x.look) (hd : U d) (hme : I me) (hq : (Fo.few T && decide ((x.stk.length : Int) ≤ 40)) = false) : Tells 4 #[cf W D J S, .slice AT T.length ct, .slice A m.length c, .int .i64 me, wv x (.slice SA x.stk.length cs), .int .u64 d] w (.bool true) := by
  have HT := Lib.hid hT
  have HTL := Lib.hid hTl
  have HTK := Lib.hid hTk
  have HA := Lib.hid hA
  have HS := Lib.hid hS
  have HU := Lib.hid hu
  have HF := Lib.hid hf
  have HSP := Lib.hid hsp
  have HLK := Lib.hid hlk
  have HME := Lib.hid hme
  have HDd := Lib.hid hd
  have H_hq := Lib.hid hq
  clear hT hTl hTk hA hS hu hf hsp hlk hme hd hq
  have Z := Lib.hid ((bel_alloc w (.cells #[.int .i64 W, .int .i64 D, .int .i64 J, .int .i64 S] 23)).trans ((bel_alloc (w.alloc (.cells #[.int .i64 W, .int .i64 D, .int .i64 J, .int .i64 S] 23)) (.cells #[.int .i64 x.pc, .slice SA x.stk.length cs, .int .i64 x.f.op, .int .i64 x.f.pc, .int .i64 x.f.who, .int .u64 x.f.val, .int .u64 x.f.x, .int .u64 x.f.y, .int .i64 x.f.res, .int .i64 x.spins, .int .i64 x.look] 32)).mono (by simp)))
  have BX := Lib.hid ((Bx.mk w W D J S 23).below (bel_alloc _ (.cells #[.int .i64 x.pc, .slice SA x.stk.length cs, .int .i64 x.f.op, .int .i64 x.f.pc, .int .i64 x.f.who, .int .u64 x.f.val, .int .u64 x.f.x, .int .u64 x.f.y, .int .i64 x.f.res, .int .i64 x.spins, .int .i64 x.look] 32)))
  have BV := Lib.hid (Wvb.new1 (w.alloc (.cells #[.int .i64 W, .int .i64 D, .int .i64 J, .int .i64 S] 23)) (g := w.heap.size + 1) x (.slice SA x.stk.length cs) (by simp))
  go_enter Tryz.func4, Tryz.ntmps4
  go_wp2_with fail
  refine (wawake_any _).mono ?_
  rintro _ w1 ⟨rfl, zz⟩
  replace BX := Lib.hid (BX.out.below zz)
  replace BV := Lib.hid (BV.out.after zz)
  replace Z := Lib.hid (Z.out.trans (zz.mono Z.out.size))
  clear zz
  obtain ⟨_, e0, e1, e2, e3⟩ := BX.out
  obtain ⟨f0, f1, f2, f3, f4, f5, f6, f7, f8, f9, f10⟩ := BV.out.cells
  go_wp2_with fail
  refine (wfew_any (x := x) (HT.out.later Z.out) HTL.out HTK.out (q := false) H_hq.out).mono ?_
  rintro _ w2 ⟨rfl, zz⟩
  clear e0 e1 e2 e3 f0 f1 f2 f3 f4 f5 f6 f7 f8 f9 f10
  replace BX := Lib.hid (BX.out.below zz)
  replace BV := Lib.hid (BV.out.after zz)
  replace Z := Lib.hid (Z.out.trans (zz.mono Z.out.size))
  clear zz
  obtain ⟨_, e0, e1, e2, e3⟩ := BX.out
  obtain ⟨f0, f1, f2, f3, f4, f5, f6, f7, f8, f9, f10⟩ := BV.out.cells
  go_wp2
  go_ret
  exact ⟨rfl, Z.out⟩
set_option maxHeartbeats 8000000 in
theorem counts_big {W D J S me d : Int} {AT A SA : Option Addr} {ct c cs : Nat} {T : List Fo.Tsk} {x : WkS} {m : List Int} {w : World} (hT : Fo.Tk w.heap.size w AT T) (hTl : T.length ≤ maxLen) (hTk : ∀ y ∈ T, y.2.length ≤ maxLen) (hA : Rd w A m) (hS : Fo.Ir w.heap.size w SA x.stk) (hu : UM m) (hf : UF x.f) (hsp : I x.spins) (hlk : I x.look) (hd : U d) (hme : I me) (hq : (Fo.few T && decide ((x.stk.length : Int) ≤ 40)) = true) (hb : 500 < m.length) : Tells 4 #[cf W D J S, .slice AT T.length ct, .slice A m.length c, .int .i64 me, wv x (.slice SA x.stk.length cs), .int .u64 d] w (.bool true) := by
  have hd5 : decide ((500 : Int) < (m.length : Int)) = true := decide_eq_true (by omega)
  have HT := Lib.hid hT
  have HTL := Lib.hid hTl
  have HTK := Lib.hid hTk
  have HA := Lib.hid hA
  have HS := Lib.hid hS
  have HU := Lib.hid hu
  have HF := Lib.hid hf
  have HSP := Lib.hid hsp
  have HLK := Lib.hid hlk
  have HME := Lib.hid hme
  have HDd := Lib.hid hd
  have H_hq := Lib.hid hq
  clear hT hTl hTk hA hS hu hf hsp hlk hme hd hq
  have Z := Lib.hid ((bel_alloc w (.cells #[.int .i64 W, .int .i64 D, .int .i64 J, .int .i64 S] 23)).trans ((bel_alloc (w.alloc (.cells #[.int .i64 W, .int .i64 D, .int .i64 J, .int .i64 S] 23)) (.cells #[.int .i64 x.pc, .slice SA x.stk.length cs, .int .i64 x.f.op, .int .i64 x.f.pc, .int .i64 x.f.who, .int .u64 x.f.val, .int .u64 x.f.x, .int .u64 x.f.y, .int .i64 x.f.res, .int .i64 x.spins, .int .i64 x.look] 32)).mono (by simp)))
  have BX := Lib.hid ((Bx.mk w W D J S 23).below (bel_alloc _ (.cells #[.int .i64 x.pc, .slice SA x.stk.length cs, .int .i64 x.f.op, .int .i64 x.f.pc, .int .i64 x.f.who, .int .u64 x.f.val, .int .u64 x.f.x, .int .u64 x.f.y, .int .i64 x.f.res, .int .i64 x.spins, .int .i64 x.look] 32)))
  have BV := Lib.hid (Wvb.new1 (w.alloc (.cells #[.int .i64 W, .int .i64 D, .int .i64 J, .int .i64 S] 23)) (g := w.heap.size + 1) x (.slice SA x.stk.length cs) (by simp))
  go_enter Tryz.func4, Tryz.ntmps4
  go_wp2_with fail
  refine (wawake_any _).mono ?_
  rintro _ w1 ⟨rfl, zz⟩
  replace BX := Lib.hid (BX.out.below zz)
  replace BV := Lib.hid (BV.out.after zz)
  replace Z := Lib.hid (Z.out.trans (zz.mono Z.out.size))
  clear zz
  obtain ⟨_, e0, e1, e2, e3⟩ := BX.out
  obtain ⟨f0, f1, f2, f3, f4, f5, f6, f7, f8, f9, f10⟩ := BV.out.cells
  go_wp2_with fail
  refine (wfew_any (x := x) (HT.out.later Z.out) HTL.out HTK.out (q := true) H_hq.out).mono ?_
  rintro _ w2 ⟨rfl, zz⟩
  clear e0 e1 e2 e3 f0 f1 f2 f3 f4 f5 f6 f7 f8 f9 f10
  replace BX := Lib.hid (BX.out.below zz)
  replace BV := Lib.hid (BV.out.after zz)
  replace Z := Lib.hid (Z.out.trans (zz.mono Z.out.size))
  clear zz
  obtain ⟨_, e0, e1, e2, e3⟩ := BX.out
  obtain ⟨f0, f1, f2, f3, f4, f5, f6, f7, f8, f9, f10⟩ := BV.out.cells
  go_wp2
  go_ret
  exact ⟨rfl, Z.out⟩
set_option maxHeartbeats 8000000 in
theorem counts_not {W D J S me d : Int} {AT A SA : Option Addr} {ct c cs : Nat} {T : List Fo.Tsk} {x : WkS} {m : List Int} {w : World} (hT : Fo.Tk w.heap.size w AT T) (hTl : T.length ≤ maxLen) (hTk : ∀ y ∈ T, y.2.length ≤ maxLen) (hA : Rd w A m) (hS : Fo.Ir w.heap.size w SA x.stk) (hu : UM m) (hf : UF x.f) (hsp : I x.spins) (hlk : I x.look) (hd : U d) (hme : I me) (hq : (Fo.few T && decide ((x.stk.length : Int) ≤ 40)) = true) (hsm : Fo.Sm T) (hok : m.length ≤ 500 ∧ x.stk.length ≤ 900) (hm : mayW W D J S T m me x = false) : Tells 4 #[cf W D J S, .slice AT T.length ct, .slice A m.length c, .int .i64 me, wv x (.slice SA x.stk.length cs), .int .u64 d] w (.bool true) := by
  have hd5 : decide ((500 : Int) < (m.length : Int)) = false := decide_eq_false (by omega)
  have HT := Lib.hid hT
  have HTL := Lib.hid hTl
  have HTK := Lib.hid hTk
  have HA := Lib.hid hA
  have HS := Lib.hid hS
  have HU := Lib.hid hu
  have HF := Lib.hid hf
  have HSP := Lib.hid hsp
  have HLK := Lib.hid hlk
  have HME := Lib.hid hme
  have HDd := Lib.hid hd
  have H_hq := Lib.hid hq
  have H_hsm := Lib.hid hsm
  have H_hok := Lib.hid hok
  have H_hm := Lib.hid hm
  clear hT hTl hTk hA hS hu hf hsp hlk hme hd hq hsm hok hm
  have Z := Lib.hid ((bel_alloc w (.cells #[.int .i64 W, .int .i64 D, .int .i64 J, .int .i64 S] 23)).trans ((bel_alloc (w.alloc (.cells #[.int .i64 W, .int .i64 D, .int .i64 J, .int .i64 S] 23)) (.cells #[.int .i64 x.pc, .slice SA x.stk.length cs, .int .i64 x.f.op, .int .i64 x.f.pc, .int .i64 x.f.who, .int .u64 x.f.val, .int .u64 x.f.x, .int .u64 x.f.y, .int .i64 x.f.res, .int .i64 x.spins, .int .i64 x.look] 32)).mono (by simp)))
  have BX := Lib.hid ((Bx.mk w W D J S 23).below (bel_alloc _ (.cells #[.int .i64 x.pc, .slice SA x.stk.length cs, .int .i64 x.f.op, .int .i64 x.f.pc, .int .i64 x.f.who, .int .u64 x.f.val, .int .u64 x.f.x, .int .u64 x.f.y, .int .i64 x.f.res, .int .i64 x.spins, .int .i64 x.look] 32)))
  have BV := Lib.hid (Wvb.new1 (w.alloc (.cells #[.int .i64 W, .int .i64 D, .int .i64 J, .int .i64 S] 23)) (g := w.heap.size + 1) x (.slice SA x.stk.length cs) (by simp))
  go_enter Tryz.func4, Tryz.ntmps4
  go_wp2_with fail
  refine (wawake_any _).mono ?_
  rintro _ w1 ⟨rfl, zz⟩
  replace BX := Lib.hid (BX.out.below zz)
  replace BV := Lib.hid (BV.out.after zz)
  replace Z := Lib.hid (Z.out.trans (zz.mono Z.out.size))
  clear zz
  obtain ⟨_, e0, e1, e2, e3⟩ := BX.out
  obtain ⟨f0, f1, f2, f3, f4, f5, f6, f7, f8, f9, f10⟩ := BV.out.cells
  go_wp2_with fail
  refine (wfew_any (x := x) (HT.out.later Z.out) HTL.out HTK.out (q := true) H_hq.out).mono ?_
  rintro _ w2 ⟨rfl, zz⟩
  clear e0 e1 e2 e3 f0 f1 f2 f3 f4 f5 f6 f7 f8 f9 f10
  replace BX := Lib.hid (BX.out.below zz)
  replace BV := Lib.hid (BV.out.after zz)
  replace Z := Lib.hid (Z.out.trans (zz.mono Z.out.size))
  clear zz
  obtain ⟨_, e0, e1, e2, e3⟩ := BX.out
  obtain ⟨f0, f1, f2, f3, f4, f5, f6, f7, f8, f9, f10⟩ := BV.out.cells
  go_wp2_with fail
  refine (Tells.of (wmay_any (n₀ := _) (x := x) (m := m) (SA := SA) (cs := cs) (HT.out.later Z.out) (HS.out.later Z.out) (Nat.le_refl _) H_hsm.out (by have := H_hok.out.2; omega) rfl) (v' := .bool false) (by rw [H_hm.out])).mono ?_
  rintro _ w3 ⟨rfl, zz⟩
  clear e0 e1 e2 e3 f0 f1 f2 f3 f4 f5 f6 f7 f8 f9 f10
  replace BX := Lib.hid (BX.out.below zz)
  replace BV := Lib.hid (BV.out.after zz)
  replace Z := Lib.hid (Z.out.trans (zz.mono Z.out.size))
  clear zz
  obtain ⟨_, e0, e1, e2, e3⟩ := BX.out
  obtain ⟨f0, f1, f2, f3, f4, f5, f6, f7, f8, f9, f10⟩ := BV.out.cells
  go_wp2
  go_ret
  exact ⟨rfl, Z.out⟩
set_option maxHeartbeats 8000000 in
theorem counts_yes {W D J S me d : Int} {AT A SA : Option Addr} {ct c cs : Nat} {T : List Fo.Tsk} {x : WkS} {m : List Int} {w : World} (hT : Fo.Tk w.heap.size w AT T) (hTl : T.length ≤ maxLen) (hTk : ∀ y ∈ T, y.2.length ≤ maxLen) (hA : Rd w A m) (hS : Fo.Ir w.heap.size w SA x.stk) (hu : UM m) (hf : UF x.f) (hsp : I x.spins) (hlk : I x.look) (hd : U d) (hme : I me) (hq : (Fo.few T && decide ((x.stk.length : Int) ≤ 40)) = true) (hsm : Fo.Sm T) (hok : m.length ≤ 500 ∧ x.stk.length ≤ 900) (hm : mayW W D J S T m me x = true) {m' : List Int} {z : WkS} {l' : List Evn} (hw : workS W D J S T m me x d = (m', z, l')) (hln : m'.length = m.length) {sk0 pn0 sk1 pn1 : Int} {bz bx idl : Bool} (hk0 : at0 m 1 = sk0) (hn0 : at0 m 0 = pn0) (hk1 : at0 m' 1 = sk1) (hn1 : at0 m' 0 = pn1) (hbz : seeksW z = bz) (hbx : seeksW x = bx) (hup : U pn0) (huk : U sk0) (hc1 : sk1 = (sk0 + b2i bz - b2i bx) % 18446744073709551616) (hc2 : pn1 = pdW pn0 l' l'.length) (hid : anyE 5 l' = idl) (hc3 : idl = (decide (pn0 = 1) && decide (pn1 = 0))) (hev : l'.length ≤ 2) : Tells 4 #[cf W D J S, .slice AT T.length ct, .slice A m.length c, .int .i64 me, wv x (.slice SA x.stk.length cs), .int .u64 d] w (.bool true) := by
  have hd5 : decide ((500 : Int) < (m.length : Int)) = false := decide_eq_false (by omega)
  have HT := Lib.hid hT
  have HTL := Lib.hid hTl
  have HTK := Lib.hid hTk
  have HA := Lib.hid hA
  have HS := Lib.hid hS
  have HU := Lib.hid hu
  have HF := Lib.hid hf
  have HSP := Lib.hid hsp
  have HLK := Lib.hid hlk
  have HME := Lib.hid hme
  have HDd := Lib.hid hd
  have H_hq := Lib.hid hq
  have H_hsm := Lib.hid hsm
  have H_hok := Lib.hid hok
  have H_hm := Lib.hid hm
  have H_hw := Lib.hid hw
  have H_hln := Lib.hid hln
  have H_hk0 := Lib.hid hk0
  have H_hn0 := Lib.hid hn0
  have H_hk1 := Lib.hid hk1
  have H_hn1 := Lib.hid hn1
  have H_hbz := Lib.hid hbz
  have H_hbx := Lib.hid hbx
  have H_hup := Lib.hid hup
  have H_huk := Lib.hid huk
  have H_hc1 := Lib.hid hc1
  have H_hc2 := Lib.hid hc2
  have H_hid := Lib.hid hid
  have H_hc3 := Lib.hid hc3
  clear hT hTl hTk hA hS hu hf hsp hlk hme hd hq hsm hok hm hw hln hk0 hn0 hk1 hn1 hbz hbx hup huk hc1 hc2 hid hc3
  have Z := Lib.hid ((bel_alloc w (.cells #[.int .i64 W, .int .i64 D, .int .i64 J, .int .i64 S] 23)).trans ((bel_alloc (w.alloc (.cells #[.int .i64 W, .int .i64 D, .int .i64 J, .int .i64 S] 23)) (.cells #[.int .i64 x.pc, .slice SA x.stk.length cs, .int .i64 x.f.op, .int .i64 x.f.pc, .int .i64 x.f.who, .int .u64 x.f.val, .int .u64 x.f.x, .int .u64 x.f.y, .int .i64 x.f.res, .int .i64 x.spins, .int .i64 x.look] 32)).mono (by simp)))
  have BX := Lib.hid ((Bx.mk w W D J S 23).below (bel_alloc _ (.cells #[.int .i64 x.pc, .slice SA x.stk.length cs, .int .i64 x.f.op, .int .i64 x.f.pc, .int .i64 x.f.who, .int .u64 x.f.val, .int .u64 x.f.x, .int .u64 x.f.y, .int .i64 x.f.res, .int .i64 x.spins, .int .i64 x.look] 32)))
  have BV := Lib.hid (Wvb.new1 (w.alloc (.cells #[.int .i64 W, .int .i64 D, .int .i64 J, .int .i64 S] 23)) (g := w.heap.size + 1) x (.slice SA x.stk.length cs) (by simp))
  go_enter Tryz.func4, Tryz.ntmps4
  go_wp2_with fail
  refine (wawake_any _).mono ?_
  rintro _ w1 ⟨rfl, zz⟩
  replace BX := Lib.hid (BX.out.below zz)
  replace BV := Lib.hid (BV.out.after zz)
  replace Z := Lib.hid (Z.out.trans (zz.mono Z.out.size))
  clear zz
  obtain ⟨_, e0, e1, e2, e3⟩ := BX.out
  obtain ⟨f0, f1, f2, f3, f4, f5, f6, f7, f8, f9, f10⟩ := BV.out.cells
  go_wp2_with fail
  refine (wfew_any (x := x) (HT.out.later Z.out) HTL.out HTK.out (q := true) H_hq.out).mono ?_
  rintro _ w2 ⟨rfl, zz⟩
  clear e0 e1 e2 e3 f0 f1 f2 f3 f4 f5 f6 f7 f8 f9 f10
  replace BX := Lib.hid (BX.out.below zz)
  replace BV := Lib.hid (BV.out.after zz)
  replace Z := Lib.hid (Z.out.trans (zz.mono Z.out.size))
  clear zz
  obtain ⟨_, e0, e1, e2, e3⟩ := BX.out
  obtain ⟨f0, f1, f2, f3, f4, f5, f6, f7, f8, f9, f10⟩ := BV.out.cells
  go_wp2_with fail
  refine (Tells.of (wmay_any (n₀ := _) (x := x) (m := m) (SA := SA) (cs := cs) (HT.out.later Z.out) (HS.out.later Z.out) (Nat.le_refl _) H_hsm.out (by have := H_hok.out.2; omega) rfl) (v' := .bool true) (by rw [H_hm.out])).mono ?_
  rintro _ w3 ⟨rfl, zz⟩
  clear e0 e1 e2 e3 f0 f1 f2 f3 f4 f5 f6 f7 f8 f9 f10
  replace BX := Lib.hid (BX.out.below zz)
  replace BV := Lib.hid (BV.out.after zz)
  replace Z := Lib.hid (Z.out.trans (zz.mono Z.out.size))
  clear zz
  obtain ⟨_, e0, e1, e2, e3⟩ := BX.out
  obtain ⟨f0, f1, f2, f3, f4, f5, f6, f7, f8, f9, f10⟩ := BV.out.cells
  go_wp2_with fail
  refine (wstep_n (HT.out.later Z.out) (HA.out.below Z.out) (HS.out.later Z.out) H_hsm.out H_hok.out HU.out HF.out HSP.out HLK.out HDd.out HME.out rfl H_hw.out).mono ?_
  rintro _ w4 ⟨A1, c1, S1, s1, E1, ce1, rfl, r1, r2, r3, zz⟩
  have HM1 := Lib.hid r1
  have HS1 := Lib.hid r2
  have HE1 := Lib.hid r3
  clear r1 r2 r3
  clear e0 e1 e2 e3 f0 f1 f2 f3 f4 f5 f6 f7 f8 f9 f10
  replace BX := Lib.hid (BX.out.below zz)
  replace BV := Lib.hid (BV.out.after zz)
  replace Z := Lib.hid (Z.out.trans (zz.mono Z.out.size))
  clear zz
  obtain ⟨_, e0, e1, e2, e3⟩ := BX.out
  obtain ⟨f0, f1, f2, f3, f4, f5, f6, f7, f8, f9, f10⟩ := BV.out.cells
  go_upto_region 6 with fail
  clear e0 e1 e2 e3 f0 f1 f2 f3 f4 f5 f6 f7 f8 f9 f10
  have zz := bel_alloc w4 (.cells #[.int .i64 z.pc, .slice S1 z.stk.length s1, .int .i64 z.f.op, .int .i64 z.f.pc, .int .i64 z.f.who, .int .u64 z.f.val, .int .u64 z.f.x, .int .u64 z.f.y, .int .i64 z.f.res, .int .i64 z.spins, .int .i64 z.look] 32)
  replace BX := Lib.hid (BX.out.below zz)
  replace BV := Lib.hid (BV.out.after zz)
  have BY := Lib.hid (Wvb.new w4 z (.slice S1 z.stk.length s1))
  replace HM1 := Lib.hid (HM1.out.below zz)
  replace HS1 := Lib.hid (HS1.out.later zz)
  replace HE1 := Lib.hid (evx_later HE1.out zz)
  replace Z := Lib.hid (Z.out.trans (zz.mono Z.out.size))
  clear zz
  have hgx1 : w4.heap.size = w4.heap.size := rfl
  generalize hv1 : w4.alloc (.cells #[.int .i64 z.pc, .slice S1 z.stk.length s1, .int .i64 z.f.op, .int .i64 z.f.pc, .int .i64 z.f.who, .int .u64 z.f.val, .int .u64 z.f.x, .int .u64 z.f.y, .int .i64 z.f.res, .int .i64 z.spins, .int .i64 z.look] 32) = v1 at *
  generalize w4.heap.size = g1 at *
  clear hv1 hgx1
  have Z4 := Lib.hid (Below.refl v1.heap.size v1)
  obtain ⟨_, e0, e1, e2, e3⟩ := BX.out
  obtain ⟨f0, f1, f2, f3, f4, f5, f6, f7, f8, f9, f10⟩ := BV.out.cells
  obtain ⟨g0, g1, g2, g3, g4, g5, g6, g7, g8, g9, g10⟩ := BY.out.cells
  have hlg := BY.out.lt
  go_wp2_with fail
  refine (ret_of (load_any A m.length c m 1 _ (HA.out.below Z.out) rfl H_hok.out.1) (v' := .int .u64 sk0) (by rw [H_hk0.out])).mono ?_
  rintro _ w5 ⟨rfl, zz⟩
  clear e0 e1 e2 e3 f0 f1 f2 f3 f4 f5 f6 f7 f8 f9 f10 g0 g1 g2 g3 g4 g5 g6 g7 g8 g9 g10 hlg
  replace BX := Lib.hid (BX.out.below zz)
  replace BV := Lib.hid (BV.out.after zz)
  replace BY := Lib.hid (BY.out.after zz)
  replace Z4 := Lib.hid (Z4.out.trans (zz.mono Z4.out.size))
  replace Z := Lib.hid (Z.out.trans (zz.mono Z.out.size))
  clear zz
  obtain ⟨_, e0, e1, e2, e3⟩ := BX.out
  obtain ⟨f0, f1, f2, f3, f4, f5, f6, f7, f8, f9, f10⟩ := BV.out.cells
  obtain ⟨g0, g1, g2, g3, g4, g5, g6, g7, g8, g9, g10⟩ := BY.out.cells
  have hlg := BY.out.lt
  go_wp2_with fail
  refine (Tells.of (wseeks_any z (.slice S1 z.stk.length s1) _) (v' := .bool bz) (by rw [H_hbz.out])).mono ?_
  rintro _ w6 ⟨rfl, zz⟩
  clear e0 e1 e2 e3 f0 f1 f2 f3 f4 f5 f6 f7 f8 f9 f10 g0 g1 g2 g3 g4 g5 g6 g7 g8 g9 g10 hlg
  replace BX := Lib.hid (BX.out.below zz)
  replace BV := Lib.hid (BV.out.after zz)
  replace BY := Lib.hid (BY.out.after zz)
  replace Z4 := Lib.hid (Z4.out.trans (zz.mono Z4.out.size))
  replace Z := Lib.hid (Z.out.trans (zz.mono Z.out.size))
  clear zz
  obtain ⟨_, e0, e1, e2, e3⟩ := BX.out
  obtain ⟨f0, f1, f2, f3, f4, f5, f6, f7, f8, f9, f10⟩ := BV.out.cells
  obtain ⟨g0, g1, g2, g3, g4, g5, g6, g7, g8, g9, g10⟩ := BY.out.cells
  have hlg := BY.out.lt
  go_upto_if 61 with fail
  go_cut [18] from 62 to 63 (fun sk wr => sk = .int .u64 ((sk0 + b2i bz) % 18446744073709551616) ∧ Hid (Below w6.heap.size w6 wr))
  case first =>
    have hwz : -9223372036854775808 ≤ sk0 := by have h := H_huk.out; unfold U at h; omega
    cases bz
    · go_wp2_with fail
      go_meet
      exact ⟨by have h2 := H_huk.out; unfold U at h2; show Value.int _ _ = Value.int _ ((sk0 + 0) % 18446744073709551616); congr 1; omega, Lib.hid (Below.refl _ _)⟩
    · go_wp2_with fail
      go_meet
      exact ⟨by show Value.int _ _ = Value.int _ ((sk0 + 1) % 18446744073709551616); congr 1; (try rw [IntKind.wrap_u64]), Lib.hid (Below.refl _ _)⟩
  case rest =>
    obtain ⟨rfl, HZZ⟩ := hcut
    have zz := HZZ.out
    clear e0 e1 e2 e3 f0 f1 f2 f3 f4 f5 f6 f7 f8 f9 f10 g0 g1 g2 g3 g4 g5 g6 g7 g8 g9 g10 hlg
    replace BX := Lib.hid (BX.out.below zz)
    replace BV := Lib.hid (BV.out.after zz)
    replace BY := Lib.hid (BY.out.after zz)
    replace Z4 := Lib.hid (Z4.out.trans (zz.mono Z4.out.size))
    replace Z := Lib.hid (Z.out.trans (zz.mono Z.out.size))
    clear zz
    obtain ⟨_, e0, e1, e2, e3⟩ := BX.out
    obtain ⟨f0, f1, f2, f3, f4, f5, f6, f7, f8, f9, f10⟩ := BV.out.cells
    obtain ⟨g0, g1, g2, g3, g4, g5, g6, g7, g8, g9, g10⟩ := BY.out.cells
    have hlg := BY.out.lt
    go_wp2_with fail
    refine (Tells.of (wseeks_any x (.slice SA x.stk.length cs) _) (v' := .bool bx) (by rw [H_hbx.out])).mono ?_
    rintro _ w7 ⟨rfl, zz⟩
    clear e0 e1 e2 e3 f0 f1 f2 f3 f4 f5 f6 f7 f8 f9 f10 g0 g1 g2 g3 g4 g5 g6 g7 g8 g9 g10 hlg
    replace BX := Lib.hid (BX.out.below zz)
    replace BV := Lib.hid (BV.out.after zz)
    replace BY := Lib.hid (BY.out.after zz)
    replace Z4 := Lib.hid (Z4.out.trans (zz.mono Z4.out.size))
    replace Z := Lib.hid (Z.out.trans (zz.mono Z.out.size))
    clear zz
    obtain ⟨_, e0, e1, e2, e3⟩ := BX.out
    obtain ⟨f0, f1, f2, f3, f4, f5, f6, f7, f8, f9, f10⟩ := BV.out.cells
    obtain ⟨g0, g1, g2, g3, g4, g5, g6, g7, g8, g9, g10⟩ := BY.out.cells
    have hlg := BY.out.lt
    go_upto_if 65 with fail
    go_cut [18] from 66 to 67 (fun sk wr => sk = .int .u64 (sk1) ∧ Hid (Below w7.heap.size w7 wr))
    case first =>
      have hwz : -9223372036854775808 ≤ sk0 := by have h := H_huk.out; unfold U at h; omega
      cases bx
      · go_wp2_with fail
        go_meet
        exact ⟨by have h2 := H_hc1.out; rw [h2]; show Value.int _ _ = Value.int _ ((sk0 + b2i bz - 0) % 18446744073709551616); congr 1; omega, Lib.hid (Below.refl _ _)⟩
      · go_wp2_with fail
        go_meet
        exact ⟨by have h2 := H_hc1.out; rw [h2]; show Value.int _ _ = Value.int _ ((sk0 + b2i bz - 1) % 18446744073709551616); congr 1; simp only [IntKind.wrap_u64]; omega, Lib.hid (Below.refl _ _)⟩
    case rest =>
      obtain ⟨rfl, HZZ⟩ := hcut
      have zz := HZZ.out
      clear e0 e1 e2 e3 f0 f1 f2 f3 f4 f5 f6 f7 f8 f9 f10 g0 g1 g2 g3 g4 g5 g6 g7 g8 g9 g10 hlg
      replace BX := Lib.hid (BX.out.below zz)
      replace BV := Lib.hid (BV.out.after zz)
      replace BY := Lib.hid (BY.out.after zz)
      replace Z4 := Lib.hid (Z4.out.trans (zz.mono Z4.out.size))
      replace Z := Lib.hid (Z.out.trans (zz.mono Z.out.size))
      clear zz
      obtain ⟨_, e0, e1, e2, e3⟩ := BX.out
      obtain ⟨f0, f1, f2, f3, f4, f5, f6, f7, f8, f9, f10⟩ := BV.out.cells
      obtain ⟨g0, g1, g2, g3, g4, g5, g6, g7, g8, g9, g10⟩ := BY.out.cells
      have hlg := BY.out.lt
      go_wp2_with fail
      refine (ret_of (load_any A m.length c m 0 _ (HA.out.below Z.out) rfl H_hok.out.1) (v' := .int .u64 pn0) (by rw [H_hn0.out])).mono ?_
      rintro _ w8 ⟨rfl, zz⟩
      clear e0 e1 e2 e3 f0 f1 f2 f3 f4 f5 f6 f7 f8 f9 f10 g0 g1 g2 g3 g4 g5 g6 g7 g8 g9 g10 hlg
      replace BX := Lib.hid (BX.out.below zz)
      replace BV := Lib.hid (BV.out.after zz)
      replace BY := Lib.hid (BY.out.after zz)
      replace Z4 := Lib.hid (Z4.out.trans (zz.mono Z4.out.size))
      replace Z := Lib.hid (Z.out.trans (zz.mono Z.out.size))
      clear zz
      obtain ⟨_, e0, e1, e2, e3⟩ := BX.out
      obtain ⟨f0, f1, f2, f3, f4, f5, f6, f7, f8, f9, f10⟩ := BV.out.cells
      obtain ⟨g0, g1, g2, g3, g4, g5, g6, g7, g8, g9, g10⟩ := BY.out.cells
      have hlg := BY.out.lt
      go_wp2
      have hwz : 0 ≤ pn0 ∧ pn0 < 18446744073709551616 := by have h := H_hup.out; unfold U at h; omega
      have Zl := Lib.hid (Below.refl w8.heap.size w8)
      go_loopw [19, 20, 21] (fun pd id i wr => ∃ (j : Nat) (pv : Int) (iv : Bool), pd = .int .u64 pv ∧ id = .bool iv ∧ i = .int .i64 j ∧ j ≤ l'.length ∧ Hid (pv = pdW pn0 l' j) ∧ Hid (iv = anyE 5 (l'.take j)) ∧ Hid (Below w8.heap.size w8 wr)) (fun _ _ i _ => l'.length - (intOf i).toNat)
      case atStart => exact ⟨0, pn0, false, rfl, rfl, rfl, Nat.zero_le _, Lib.hid (pdW_zero H_hup.out).symm, Lib.hid rfl, Zl⟩
      case round =>
        obtain ⟨j, pv, iv, rfl, rfl, rfl, hj, HPV, HIV, HZ⟩ := hrel
        by_cases hlt : j < l'.length
        · obtain ⟨bE, oE, rfl, hbE, q0, q1, q2⟩ := (evx_later (evx_later HE1.out Z4.out) HZ.out).at hlt
          have HS1 := Lib.hid (pdW_succ (p := pn0) hlt)
          have HS2 := Lib.hid (anyE_succ (k := 5) hlt)
          obtain ⟨kd, hkd⟩ : ∃ kd, l'[j].1 = kd := ⟨_, rfl⟩
          rw [hkd] at q0
          have HKD := Lib.hid hkd
          have hdl : decide ((j : Int) < (l'.length : Int)) = true := decide_eq_true (by omega)
          have hd0 : (0 : Int) ≤ (j : Int) := by omega
          have hd1 : (j : Int) < (l'.length : Int) := by omega
          have hpv : 0 ≤ pv ∧ pv < 18446744073709551616 := by have h := HPV.out; unfold pdW at h; omega
          clear hkd q1 q2
          by_cases h3 : kd = 3
          · subst h3
            cases iv
            · go_wp2
              go_roundw
              case rel => exact ⟨j + 1, _, _, rfl, rfl, by go_num, by omega, Lib.hid (by have a := HS1.out; have b := HKD.out; have c := HPV.out; rw [b] at a; simp only [Int.reduceEq, if_true, if_false] at a; rw [a, ← c]; (try rw [IntKind.wrap_u64]); omega), Lib.hid (by have a := HS2.out; have b := HKD.out; have c := HIV.out; rw [b] at a; rw [a, ← c]; rfl), HZ⟩
              case measure => simp [intOf]; omega
            · go_wp2
              go_roundw
              case rel => exact ⟨j + 1, _, _, rfl, rfl, by go_num, by omega, Lib.hid (by have a := HS1.out; have b := HKD.out; have c := HPV.out; rw [b] at a; simp only [Int.reduceEq, if_true, if_false] at a; rw [a, ← c]; (try rw [IntKind.wrap_u64]); omega), Lib.hid (by have a := HS2.out; have b := HKD.out; have c := HIV.out; rw [b] at a; rw [a, ← c]; rfl), HZ⟩
              case measure => simp [intOf]; omega
          by_cases h4 : kd = 4
          · subst h4
            cases iv
            · go_wp2
              go_roundw
              case rel => exact ⟨j + 1, _, _, rfl, rfl, by go_num, by omega, Lib.hid (by have a := HS1.out; have b := HKD.out; have c := HPV.out; rw [b] at a; simp only [Int.reduceEq, if_true, if_false] at a; rw [a, ← c]; (try rw [IntKind.wrap_u64]); omega), Lib.hid (by have a := HS2.out; have b := HKD.out; have c := HIV.out; rw [b] at a; rw [a, ← c]; rfl), HZ⟩
              case measure => simp [intOf]; omega
            · go_wp2
              go_roundw
              case rel => exact ⟨j + 1, _, _, rfl, rfl, by go_num, by omega, Lib.hid (by have a := HS1.out; have b := HKD.out; have c := HPV.out; rw [b] at a; simp only [Int.reduceEq, if_true, if_false] at a; rw [a, ← c]; (try rw [IntKind.wrap_u64]); omega), Lib.hid (by have a := HS2.out; have b := HKD.out; have c := HIV.out; rw [b] at a; rw [a, ← c]; rfl), HZ⟩
              case measure => simp [intOf]; omega
          by_cases h5 : kd = 5
          · subst h5
            cases iv
            · go_wp2
              go_roundw
              case rel => exact ⟨j + 1, _, _, rfl, rfl, by go_num, by omega, Lib.hid (by have a := HS1.out; have b := HKD.out; have c := HPV.out; rw [b] at a; simp only [Int.reduceEq, if_false] at a; rw [a, ← c]; (try rw [IntKind.wrap_u64]); omega), Lib.hid (by have a := HS2.out; have b := HKD.out; have c := HIV.out; rw [b] at a; rw [a, ← c]; rfl), HZ⟩
              case measure => simp [intOf]; omega
            · go_wp2
              go_roundw
              case rel => exact ⟨j + 1, _, _, rfl, rfl, by go_num, by omega, Lib.hid (by have a := HS1.out; have b := HKD.out; have c := HPV.out; rw [b] at a; simp only [Int.reduceEq, if_false] at a; rw [a, ← c]; (try rw [IntKind.wrap_u64]); omega), Lib.hid (by have a := HS2.out; have b := HKD.out; have c := HIV.out; rw [b] at a; rw [a, ← c]; rfl), HZ⟩
              case measure => simp [intOf]; omega
          have n3 : (kd == 3) = false := by simpa using h3
          have n4 : (kd == 4) = false := by simpa using h4
          have n5 : (kd == 5) = false := by simpa using h5
          have HN := Lib.hid (And.intro h3 (And.intro h4 h5))
          clear h3 h4 h5
          cases iv
          · go_wp2
            go_roundw
            case rel => exact ⟨j + 1, _, _, rfl, rfl, by go_num, by omega, Lib.hid (by have a := HS1.out; have b := HKD.out; have c := HPV.out; have f := HN.out; rw [b, if_neg f.1, if_neg f.2.1] at a; rw [a, ← c]; (try rw [IntKind.wrap_u64]); omega), Lib.hid (by have a := HS2.out; have b := HKD.out; have c := HIV.out; rw [b] at a; rw [a, ← c]; rw [show (kd == 5) = false from by simpa using HN.out.2.2]; rfl), HZ⟩
            case measure => simp [intOf]; omega
          · go_wp2
            go_roundw
            case rel => exact ⟨j + 1, _, _, rfl, rfl, by go_num, by omega, Lib.hid (by have a := HS1.out; have b := HKD.out; have c := HPV.out; have f := HN.out; rw [b, if_neg f.1, if_neg f.2.1] at a; rw [a, ← c]; (try rw [IntKind.wrap_u64]); omega), Lib.hid (by have a := HS2.out; have b := HKD.out; have c := HIV.out; rw [b] at a; rw [a, ← c]; rw [show (kd == 5) = false from by simpa using HN.out.2.2]; rfl), HZ⟩
            case measure => simp [intOf]; omega
        · obtain rfl : j = l'.length := by omega
          have zz := HZ.out
          clear e0 e1 e2 e3 f0 f1 f2 f3 f4 f5 f6 f7 f8 f9 f10 g0 g1 g2 g3 g4 g5 g6 g7 g8 g9 g10 hlg
          replace BX := Lib.hid (BX.out.below zz)
          replace BV := Lib.hid (BV.out.after zz)
          replace BY := Lib.hid (BY.out.after zz)
          replace Z4 := Lib.hid (Z4.out.trans (zz.mono Z4.out.size))
          replace Z := Lib.hid (Z.out.trans (zz.mono Z.out.size))
          have hdl : decide ((l'.length : Int) < (l'.length : Int)) = false := decide_eq_false (by omega)
          clear zz
          obtain ⟨_, e0, e1, e2, e3⟩ := BX.out
          obtain ⟨f0, f1, f2, f3, f4, f5, f6, f7, f8, f9, f10⟩ := BV.out.cells
          obtain ⟨g0, g1, g2, g3, g4, g5, g6, g7, g8, g9, g10⟩ := BY.out.cells
          have hlg := BY.out.lt
          have hpv2 : pv = pn1 := by rw [H_hc2.out]; exact HPV.out
          subst hpv2
          have hiv2 : iv = idl := by rw [← H_hid.out]; have h := HIV.out; rwa [List.take_length] at h
          subst hiv2
          go_wp2_with fail
          refine (ret_of (load_any A1 m.length c1 m' 1 _ (HM1.out.below Z4.out) H_hln.out H_hok.out.1) (v' := .int .u64 sk1) (by rw [H_hk1.out])).mono ?_
          rintro _ w9 ⟨rfl, zz⟩
          clear e0 e1 e2 e3 f0 f1 f2 f3 f4 f5 f6 f7 f8 f9 f10 g0 g1 g2 g3 g4 g5 g6 g7 g8 g9 g10 hlg
          replace BX := Lib.hid (BX.out.below zz)
          replace BV := Lib.hid (BV.out.after zz)
          replace BY := Lib.hid (BY.out.after zz)
          replace Z4 := Lib.hid (Z4.out.trans (zz.mono Z4.out.size))
          replace Z := Lib.hid (Z.out.trans (zz.mono Z.out.size))
          clear zz
          obtain ⟨_, e0, e1, e2, e3⟩ := BX.out
          obtain ⟨f0, f1, f2, f3, f4, f5, f6, f7, f8, f9, f10⟩ := BV.out.cells
          obtain ⟨g0, g1, g2, g3, g4, g5, g6, g7, g8, g9, g10⟩ := BY.out.cells
          have hlg := BY.out.lt
          go_wp2_with fail
          refine (ret_of (load_any A1 m.length c1 m' 0 _ (HM1.out.below Z4.out) H_hln.out H_hok.out.1) (v' := .int .u64 pv) (by rw [H_hn1.out])).mono ?_
          rintro _ w10 ⟨rfl, zz⟩
          clear e0 e1 e2 e3 f0 f1 f2 f3 f4 f5 f6 f7 f8 f9 f10 g0 g1 g2 g3 g4 g5 g6 g7 g8 g9 g10 hlg
          replace BX := Lib.hid (BX.out.below zz)
          replace BV := Lib.hid (BV.out.after zz)
          replace BY := Lib.hid (BY.out.after zz)
          replace Z4 := Lib.hid (Z4.out.trans (zz.mono Z4.out.size))
          replace Z := Lib.hid (Z.out.trans (zz.mono Z.out.size))
          clear zz
          obtain ⟨_, e0, e1, e2, e3⟩ := BX.out
          obtain ⟨f0, f1, f2, f3, f4, f5, f6, f7, f8, f9, f10⟩ := BV.out.cells
          obtain ⟨g0, g1, g2, g3, g4, g5, g6, g7, g8, g9, g10⟩ := BY.out.cells
          have hlg := BY.out.lt
          go_wp2_with fail
          refine (ret_of (load_any A m.length c m 0 _ (HA.out.below Z.out) rfl H_hok.out.1) (v' := .int .u64 pn0) (by rw [H_hn0.out])).mono ?_
          rintro _ w11 ⟨rfl, zz⟩
          clear e0 e1 e2 e3 f0 f1 f2 f3 f4 f5 f6 f7 f8 f9 f10 g0 g1 g2 g3 g4 g5 g6 g7 g8 g9 g10 hlg
          replace BX := Lib.hid (BX.out.below zz)
          replace BV := Lib.hid (BV.out.after zz)
          replace BY := Lib.hid (BY.out.after zz)
          replace Z4 := Lib.hid (Z4.out.trans (zz.mono Z4.out.size))
          replace Z := Lib.hid (Z.out.trans (zz.mono Z.out.size))
          clear zz
          obtain ⟨_, e0, e1, e2, e3⟩ := BX.out
          obtain ⟨f0, f1, f2, f3, f4, f5, f6, f7, f8, f9, f10⟩ := BV.out.cells
          obtain ⟨g0, g1, g2, g3, g4, g5, g6, g7, g8, g9, g10⟩ := BY.out.cells
          have hlg := BY.out.lt
          have hc3 := H_hc3.out
          clear hwz
          rcases Classical.em (pn0 = 1) with h1 | h1
          · subst h1
            rcases Classical.em (pv = 0) with h2 | h2
            · subst h2
              obtain rfl : iv = true := by rw [hc3]; rfl
              clear hc3
              go_wp2
              go_ret
              exact ⟨rfl, Z.out⟩
            · have n2 : (pv == 0) = false := by simpa using h2
              obtain rfl : iv = false := by rw [hc3]; simp [h2]
              clear hc3 h2
              go_wp2
              go_ret
              exact ⟨rfl, Z.out⟩
          · have n1 : (pn0 == 1) = false := by simpa using h1
            obtain rfl : iv = false := by rw [hc3]; simp [h1]
            clear hc3 h1
            go_wp2
            go_ret
            exact ⟨rfl, Z.out⟩
set_option maxHeartbeats 8000000 in
theorem counts_all {W D J S me d : Int} {AT A SA : Option Addr} {ct c cs : Nat} {T : List Fo.Tsk} {x : WkS} {m : List Int} {w : World} (hT : Fo.Tk w.heap.size w AT T) (hTl : T.length ≤ maxLen) (hTk : ∀ y ∈ T, y.2.length ≤ maxLen) (hA : Rd w A m) (hS : Fo.Ir w.heap.size w SA x.stk) (hu : UM m) (hf : UF x.f) (hsp : I x.spins) (hlk : I x.look) (hd : U d) (hme : I me) : Tells 4 #[cf W D J S, .slice AT T.length ct, .slice A m.length c, .int .i64 me, wv x (.slice SA x.stk.length cs), .int .u64 d] w (.bool true) := by
  cases hq : (Fo.few T && decide ((x.stk.length : Int) ≤ 40))
  · exact counts_few hT hTl hTk hA hS hu hf hsp hlk hd hme hq
  by_cases hb : 500 < m.length
  · exact counts_big hT hTl hTk hA hS hu hf hsp hlk hd hme hq hb
  obtain ⟨hq1, hq2⟩ : Fo.few T = true ∧ (x.stk.length : Int) ≤ 40 := by simpa using hq
  have hsm := Fo.few_sm hq1
  have hok : m.length ≤ 500 ∧ x.stk.length ≤ 900 := ⟨by omega, by omega⟩
  cases hm : mayW W D J S T m me x
  · exact counts_not hT hTl hTk hA hS hu hf hsp hlk hd hme hq hsm hok hm
  have o := stepW_ok (d := d) hm
  have e1 : workS W D J S T m me x d = ((stepW W D J S T m me x d).1, (stepW W D J S T m me x d).2.1, (stepW W D J S T m me x d).2.2) := by unfold workS; rw [if_pos hm]
  obtain ⟨k1, k2, k3⟩ := counts_W (d := d) hm hu
  exact counts_yes hT hTl hTk hA hS hu hf hsp hlk hd hme hq hsm hok hm e1 o.len rfl rfl rfl rfl rfl rfl (at0_U hu 0) (at0_U hu 1) k1 (by unfold pdW; rw [List.take_length]; exact k2) rfl (by rw [k3, k2]) o.evs
end Go.Proofs.YtlpkccpijloidaaGreat
