/- Package work's small functions, and a worker's look (layer 18). -/
import Derived.Test.YtlpkccpijloidaaGreatWkF
import Derived.Test.YtlpkccpijloidaaGreatWkG
import Derived.Test.YtlpkccpijloidaaGreatWkH
namespace Go.Proofs.YtlpkccpijloidaaGreat
open Go.RowKit Go.Deep
/-- A worker as a value: its stack is a slice. -/
abbrev wv (x : WkS) (sv : Value) : Value := .agg #[.int .i64 x.pc, sv, .int .i64 x.f.op, .int .i64 x.f.pc, .int .i64 x.f.who, .int .u64 x.f.val, .int .u64 x.f.x, .int .u64 x.f.y, .int .i64 x.f.res, .int .i64 x.spins, .int .i64 x.look]
/-- A worker's state lies in block g. -/
def Wvb (w : World) (g : Nat) (x : WkS) (sv : Value) : Prop := w.heap[g]? = some (.cells #[.int .i64 x.pc, sv, .int .i64 x.f.op, .int .i64 x.f.pc, .int .i64 x.f.who, .int .u64 x.f.val, .int .u64 x.f.x, .int .u64 x.f.y, .int .i64 x.f.res, .int .i64 x.spins, .int .i64 x.look] 32 (0, 0))
theorem Wvb.lt {w : World} {g : Nat} {x : WkS} {sv : Value} (h : Wvb w g x sv) : g < w.heap.size := (Array.getElem?_eq_some_iff.1 h).1
theorem Wvb.below {w w' : World} {g B : Nat} {x : WkS} {sv : Value} (h : Wvb w g x sv) (hb : Below B w w') (hg : g < B) : Wvb w' g x sv := (hb.block g hg).trans h
theorem Wvb.after {w w' : World} {g : Nat} {x : WkS} {sv : Value} (h : Wvb w g x sv) (hb : Below w.heap.size w w') : Wvb w' g x sv := h.below hb h.lt
theorem Wvb.new (w : World) (x : WkS) (sv : Value) : Wvb (w.alloc (.cells #[.int .i64 x.pc, sv, .int .i64 x.f.op, .int .i64 x.f.pc, .int .i64 x.f.who, .int .u64 x.f.val, .int .u64 x.f.x, .int .u64 x.f.y, .int .i64 x.f.res, .int .i64 x.spins, .int .i64 x.look] 32)) w.heap.size x sv := heap_alloc_new _ _
theorem Wvb.new1 (w : World) {g : Nat} (x : WkS) (sv : Value) (hg : w.heap.size = g) : Wvb (w.alloc (.cells #[.int .i64 x.pc, sv, .int .i64 x.f.op, .int .i64 x.f.pc, .int .i64 x.f.who, .int .u64 x.f.val, .int .u64 x.f.x, .int .u64 x.f.y, .int .i64 x.f.res, .int .i64 x.spins, .int .i64 x.look] 32)) g x sv := by
  subst hg
  exact heap_alloc_new _ _
theorem Wvb.alloc {w : World} {g : Nat} {x : WkS} {sv : Value} (h : Wvb w g x sv) (o : Obj) : Wvb (w.alloc o) g x sv := (Below.heap_alloc w o g h.lt).trans h
theorem Wvb.cells {w : World} {g : Nat} {x : WkS} {sv : Value} (h : Wvb w g x sv) : w.cell? ⟨g, 0, none⟩ = some (.int .i64 x.pc) ∧ w.cell? ⟨g, 1, none⟩ = some (sv) ∧ w.cell? ⟨g, 2, none⟩ = some (.int .i64 x.f.op) ∧ w.cell? ⟨g, 3, none⟩ = some (.int .i64 x.f.pc) ∧ w.cell? ⟨g, 4, none⟩ = some (.int .i64 x.f.who) ∧ w.cell? ⟨g, 5, none⟩ = some (.int .u64 x.f.val) ∧ w.cell? ⟨g, 6, none⟩ = some (.int .u64 x.f.x) ∧ w.cell? ⟨g, 7, none⟩ = some (.int .u64 x.f.y) ∧ w.cell? ⟨g, 8, none⟩ = some (.int .i64 x.f.res) ∧ w.cell? ⟨g, 9, none⟩ = some (.int .i64 x.spins) ∧ w.cell? ⟨g, 10, none⟩ = some (.int .i64 x.look) := by
  unfold Wvb at h
  refine ⟨?_, ?_, ?_, ?_, ?_, ?_, ?_, ?_, ?_, ?_, ?_⟩ <;> (rw [cell_of_row w g _ _ _ _ h]; rfl)
theorem Wvb.free {w : World} {g : Nat} {x : WkS} {sv : Value} (h : Wvb w g x sv) (i : Nat) : w.frozen? ⟨g, i, none⟩ = false := by
  unfold Wvb at h
  simp [World.frozen?, h]
theorem Wvb.setS {w : World} {g : Nat} {x : WkS} {sv : Value} (h : Wvb w g x sv) (z : Value) : Wvb (w.setCell ⟨g, 1, none⟩ z) g x z := by
  unfold Wvb at h ⊢
  simp [World.setCell, Array.getElem?_modify, h]
section
variable (k : Wc) {x : WkS} {m : List Int} {w : World}
theorem wlook_any (hp : x.pc = 7) (ok : Wok k x m) (h : Wst k x m [] w) : Calls Tryz.prog 39 #[.pointer (some ⟨k.g, 0, none⟩)] w (Wrt k (stepW k.W k.D k.J k.S k.T m k.me x k.d).2.1 (stepW k.W k.D k.J k.S k.T m k.me x k.d).1 (stepW k.W k.D k.J k.S k.T m k.me x k.d).2.2 w) := by
  have hW := ok.lw
  obtain ⟨p, s, ⟨xo, xp, xq, xv, xx, xy, xr⟩, sp, lk⟩ := x
  simp only at hp
  subst hp
  rw [stepW_7]
  simp only
  unfold lookW
  by_cases hin : 0 ≤ lk ∧ lk ≤ 1 + 2 * k.W
  · rw [if_pos hin]
    by_cases e0 : lk = 0
    · subst e0
      rw [if_pos rfl]
      exact wlook_even_any k (u := at0 m 4) (Int.le_refl _) hin.2 rfl rfl ok h
    rw [if_neg e0]
    by_cases e1 : lk = 1
    · subst e1
      rw [if_pos rfl]
      by_cases e2 : at0 m 5 = xv
      · rw [if_pos e2]
        exact wlook_odd_any k (u := at0 m 5) hin.1 hin.2 (by show ¬ (1 : Int) % 2 = 0; decide) rfl (by show (if (1 : Int) = 1 then (at0 m 5 != xv) else _) = false; rw [if_pos rfl, e2]; simp) (by show ¬ (1 : Int) = 1 + 2 * k.W; omega) ok h
      · rw [if_neg e2]
        exact wlook_more_any k (u := at0 m 5) hin.1 hin.2 (by show ¬ (1 : Int) % 2 = 0; decide) rfl (by show (if (1 : Int) = 1 then (at0 m 5 != xv) else _) = true; rw [if_pos rfl]; simpa using e2) ok h
    rw [if_neg e1]
    by_cases e2 : lk % 2 = 0
    · rw [if_pos e2]
      refine wlook_even_any k (u := at0 m (bg k.D k.J ((lk - 2) / 2))) hin.1 hin.2 e2 ?_ ok h
      show at0 m (lkI k.D k.J lk) = _
      unfold lkI
      rw [if_neg e0, if_neg e1, if_pos e2]
    rw [if_neg e2]
    have hv : at0 m (lkI k.D k.J lk) = at0 m (bg k.D k.J ((lk - 2) / 2) + 1) := by
      unfold lkI
      rw [if_neg e0, if_neg e1, if_neg e2]
    by_cases e3 : 0 < far (at0 m (bg k.D k.J ((lk - 2) / 2) + 1)) xv
    · rw [if_pos e3]
      exact wlook_more_any k hin.1 hin.2 e2 hv (by show (if lk = 1 then _ else decide (0 < far _ xv)) = true; rw [if_neg e1]; exact decide_eq_true e3) ok h
    rw [if_neg e3]
    by_cases e4 : lk = 1 + 2 * k.W
    · rw [if_pos e4]
      exact wlook_last_any k hin.1 hin.2 e2 hv (by show (if lk = 1 then _ else decide (0 < far _ xv)) = false; rw [if_neg e1]; exact decide_eq_false e3) e4 ok h
    · rw [if_neg e4]
      exact wlook_odd_any k hin.1 hin.2 e2 hv (by show (if lk = 1 then _ else decide (0 < far _ xv)) = false; rw [if_neg e1]; exact decide_eq_false e3) e4 ok h
  · rw [if_neg hin]
    exact wlook_out_any k (by show lk < 0 ∨ 1 + 2 * k.W < lk; omega) ok h
end
attribute [local go_sem] run_store_func run_makeFunc
theorem wsteps_any (p : Option Addr) (w : World) : Tells 22 #[.pointer p] w (.agg #[.func (.func 33) #[.pointer p] #[], .func (.func 34) #[.pointer p] #[], .func (.func 35) #[.pointer p] #[], .func (.func 35) #[.pointer p] #[], .func (.func 36) #[.pointer p] #[], .func (.func 37) #[.pointer p] #[], .func (.func 38) #[.pointer p] #[], .func (.func 39) #[.pointer p] #[], .func (.func 40) #[.pointer p] #[], .func (.func 41) #[.pointer p] #[], .func (.func 42) #[.pointer p] #[], .func (.func 43) #[.pointer p] #[], .func (.func 44) #[.pointer p] #[], .func (.func 45) #[.pointer p] #[], .func (.func 46) #[.pointer p] #[], .func (.func 47) #[.pointer p] #[]]) := by
  go_enter Tryz.func22, Tryz.ntmps22
  go_wp2
  refine bodyPost_ret (by simp [results, Tryz.results22, go_sem]; try rfl) rfl ?_
  exact ⟨rfl, (Below.refl _ _).alloc (Nat.le_refl _) _⟩
/-- A worker's state, laid into its box. -/
def pvk (w : World) (g : Nat) (x : WkS) (sv : Value) : World := (((((((((((w.setCell ⟨g, 0, none⟩ (.int .i64 x.pc)).setCell ⟨g, 1, none⟩ (sv)).setCell ⟨g, 2, none⟩ (.int .i64 x.f.op)).setCell ⟨g, 3, none⟩ (.int .i64 x.f.pc)).setCell ⟨g, 4, none⟩ (.int .i64 x.f.who)).setCell ⟨g, 5, none⟩ (.int .u64 x.f.val)).setCell ⟨g, 6, none⟩ (.int .u64 x.f.x)).setCell ⟨g, 7, none⟩ (.int .u64 x.f.y)).setCell ⟨g, 8, none⟩ (.int .i64 x.f.res)).setCell ⟨g, 9, none⟩ (.int .i64 x.spins)).setCell ⟨g, 10, none⟩ (.int .i64 x.look))
theorem Wvb.pvk {w : World} {g : Nat} {x : WkS} {sv : Value} (h : Wvb w g x sv) (y : WkS) (zv : Value) : Wvb (pvk w g y zv) g y zv := by
  unfold Wvb at h ⊢
  unfold YtlpkccpijloidaaGreat.pvk
  simp [World.setCell, Array.getElem?_modify, h]
theorem below_pvk {n : Nat} {w w' : World} (h : Below n w w') {g : Nat} (k : n ≤ g) (x : WkS) (sv : Value) : Below n w (pvk w' g x sv) :=
  (((((((((((h.setCell k _).setCell k _).setCell k _).setCell k _).setCell k _).setCell k _).setCell k _).setCell k _).setCell k _).setCell k _).setCell k _)
theorem results_w1 {fn : Func} {u : Tmp} (h : fn.results = #[.cell u 32]) (tmps : Array Value) {w : World} {g : Nat} {x : WkS} {sv : Value} (hp : tmps.getD u undef = .pointer (some ⟨g, 0, none⟩)) (hb : Wvb w g x sv) :
    (results fn tmps).run Tryz.prog w = .ok (wv x sv) w := by
  obtain ⟨c0, c1, c2, c3, c4, c5, c6, c7, c8, c9, c10⟩ := hb.cells
  have hp2 : tmps[u]?.getD undef = .pointer (some ⟨g, 0, none⟩) := by simpa using hp
  simp [results, h, hp2, go_sem, c0, c1, c2, c3, c4, c5, c6, c7, c8, c9, c10]
theorem results_w3 {fn : Func} {t u v : Tmp} (h : fn.results = #[.tmp t, .cell u 32, .tmp v]) (tmps : Array Value) {w : World} {g : Nat} {x : WkS} {sv : Value} (hp : tmps.getD u undef = .pointer (some ⟨g, 0, none⟩)) (hb : Wvb w g x sv) :
    (results fn tmps).run Tryz.prog w = .ok (.tuple #[tmps.getD t undef, wv x sv, tmps.getD v undef]) w := by
  obtain ⟨c0, c1, c2, c3, c4, c5, c6, c7, c8, c9, c10⟩ := hb.cells
  have hp2 : tmps[u]?.getD undef = .pointer (some ⟨g, 0, none⟩) := by simpa using hp
  simp [results, h, hp2, go_sem, c0, c1, c2, c3, c4, c5, c6, c7, c8, c9, c10]
theorem wnew_any (me : Int) (w : World) : Tells 16 #[.int .i64 me] w (wv ⟨0, [], fbg 1 me 0, 0, 0⟩ (.slice none 0 0)) := by
  go_enter Tryz.func16, Tryz.ntmps16
  go_wp2_with fail
  refine (begin_any 1 me 0 _).mono ?_
  rintro _ w1 ⟨rfl, z1⟩
  have Z := Lib.hid (((Below.refl w.heap.size w).alloc (Nat.le_refl _) (.cells #[.int .i64 0, .slice none 0 0, .int .i64 0, .int .i64 0, .int .i64 0, .int .u64 0, .int .u64 0, .int .u64 0, .int .i64 0, .int .i64 0, .int .i64 0] 32)).trans (z1.mono (by simp)))
  have B := Lib.hid ((Wvb.new w ⟨0, [], ⟨0, 0, 0, 0, 0, 0, 0⟩, 0, 0⟩ (.slice none 0 0)).after z1)
  clear z1
  obtain ⟨b0, b1, b2, b3, b4, b5, b6, b7, b8, b9, b10⟩ := B.out.cells
  have fz := B.out.free
  simp only at b0 b1 b2 b3 b4 b5 b6 b7 b8 b9 b10
  go_wp2
  change bodyPost _ _ _ _ _ (pvk w1 w.heap.size ⟨0, [], fbg 1 me 0, 0, 0⟩ (.slice none 0 0))
  refine bodyPost_ret (results_w1 Tryz.results16 _ rfl (B.out.pvk _ _)) rfl ?_
  exact ⟨rfl, below_pvk Z.out (Nat.le_refl _) _ _⟩
theorem wseeks_any (x : WkS) (sv : Value) (w : World) : Tells 14 #[wv x sv] w (.bool (seeksW x)) := by
  obtain ⟨p, s, ⟨o, fp, q, v, fx, y, r⟩, sp, lk⟩ := x
  have Z := Lib.hid (bel_alloc w (.cells #[.int .i64 p, sv, .int .i64 o, .int .i64 fp, .int .i64 q, .int .u64 v, .int .u64 fx, .int .u64 y, .int .i64 r, .int .i64 sp, .int .i64 lk] 32))
  by_cases e2 : p = 2
  · subst e2
    show Tells _ _ _ (.bool true)
    go_enter Tryz.func14, Tryz.ntmps14
    go_wp2
    go_ret
    exact ⟨rfl, Z.out⟩
  have f2 : (p == 2) = false := by simpa using e2
  by_cases e3 : p = 3
  · subst e3
    show Tells _ _ _ (.bool true)
    go_enter Tryz.func14, Tryz.ntmps14
    go_wp2
    go_ret
    exact ⟨rfl, Z.out⟩
  have f3 : (p == 3) = false := by simpa using e3
  by_cases e4 : p = 4
  · subst e4
    show Tells _ _ _ (.bool true)
    go_enter Tryz.func14, Tryz.ntmps14
    go_wp2
    go_ret
    exact ⟨rfl, Z.out⟩
  have f4 : (p == 4) = false := by simpa using e4
  by_cases e5 : p = 5
  · subst e5
    show Tells _ _ _ (.bool true)
    go_enter Tryz.func14, Tryz.ntmps14
    go_wp2
    go_ret
    exact ⟨rfl, Z.out⟩
  have f5 : (p == 5) = false := by simpa using e5
  by_cases e6 : p = 6
  · subst e6
    show Tells _ _ _ (.bool true)
    go_enter Tryz.func14, Tryz.ntmps14
    go_wp2
    go_ret
    exact ⟨rfl, Z.out⟩
  have f6 : (p == 6) = false := by simpa using e6
  have E := Lib.hid (show seeksW ⟨p, s, ⟨o, fp, q, v, fx, y, r⟩, sp, lk⟩ = false by unfold seeksW; simp; omega)
  rw [E.out]
  clear e2 e3 e4 e5 e6
  go_enter Tryz.func14, Tryz.ntmps14
  go_wp2
  go_ret
  exact ⟨rfl, Z.out⟩
theorem wparked_any (x : WkS) (sv : Value) (w : World) : Tells 18 #[wv x sv] w (.bool (decide (x.pc = 8) && prk x.f)) := by
  obtain ⟨p, s, ⟨o, fp, q, v, fx, y, r⟩, sp, lk⟩ := x
  have Z := Lib.hid (bel_alloc w (.cells #[.int .i64 p, sv, .int .i64 o, .int .i64 fp, .int .i64 q, .int .u64 v, .int .u64 fx, .int .u64 y, .int .i64 r, .int .i64 sp, .int .i64 lk] 32))
  by_cases e : p = 8
  · subst e
    obtain ⟨b, hb⟩ : ∃ b, prk ⟨o, fp, q, v, fx, y, r⟩ = b := ⟨_, rfl⟩
    rw [hb]
    have HB := Lib.hid hb
    clear hb
    show Tells _ _ _ (.bool b)
    go_enter Tryz.func18, Tryz.ntmps18
    go_wp2_with fail
    refine (Tells.of (prk_any ⟨o, fp, q, v, fx, y, r⟩ _) (v' := .bool b) (by rw [HB.out])).mono ?_
    rintro _ w1 ⟨rfl, z1⟩
    have ZZ := Lib.hid (Z.out.trans (z1.mono (by simp)))
    clear z1
    go_wp2
    go_ret
    exact ⟨rfl, ZZ.out⟩
  · have f0 : (p == 8) = false := by simpa using e
    rw [show (decide (p = 8) && prk ⟨o, fp, q, v, fx, y, r⟩) = false by simp [e]]
    clear e
    go_enter Tryz.func18, Tryz.ntmps18
    go_wp2
    go_ret
    exact ⟨rfl, Z.out⟩
section
variable {W D J S me : Int} {AT A SA : Option Addr} {ct c cs n n₀ : Nat} {T : List Fo.Tsk} {x : WkS} {m : List Int} {w : World}
set_option maxHeartbeats 4000000 in
theorem wmay_0 (hT : Fo.Tk n₀ w AT T) (hS : Fo.Ir n₀ w SA x.stk) (hn₀ : n₀ ≤ w.heap.size) (hsm : Fo.Sm T) (hl : x.stk.length ≤ 1000) (h0 : may W D J S = false): Tells 11 #[cf W D J S, .slice AT T.length ct, .slice A n c, .int .i64 me, wv x (.slice SA x.stk.length cs)] w (.bool false) := by
  obtain ⟨p, s, ⟨o, fp, q, v, fx, y, r⟩, sp, lk⟩ := x
  simp only at hS hl ⊢
  have H0 := Lib.hid h0
  have HT := Lib.hid hT
  have HS := Lib.hid hS
  have HN := Lib.hid hn₀
  have HSM := Lib.hid hsm
  have HL := Lib.hid hl
  clear hT hS hn₀ hsm hl h0
  have Z := Lib.hid (((bel_alloc w (.cells #[.int .i64 W, .int .i64 D, .int .i64 J, .int .i64 S] 23))).trans ((bel_alloc (w.alloc (.cells #[.int .i64 W, .int .i64 D, .int .i64 J, .int .i64 S] 23)) (.cells #[.int .i64 p, .slice SA s.length cs, .int .i64 o, .int .i64 fp, .int .i64 q, .int .u64 v, .int .u64 fx, .int .u64 y, .int .i64 r, .int .i64 sp, .int .i64 lk] 32)).mono (by simp)))
  have BX := Lib.hid ((Bx.mk w W D J S 23).below (bel_alloc _ (.cells #[.int .i64 p, .slice SA s.length cs, .int .i64 o, .int .i64 fp, .int .i64 q, .int .u64 v, .int .u64 fx, .int .u64 y, .int .i64 r, .int .i64 sp, .int .i64 lk] 32)))
  have BV := Lib.hid (Wvb.new1 (w.alloc (.cells #[.int .i64 W, .int .i64 D, .int .i64 J, .int .i64 S] 23)) (g := w.heap.size + 1) ⟨p, s, ⟨o, fp, q, v, fx, y, r⟩, sp, lk⟩ (.slice SA s.length cs) (by simp))
  go_enter Tryz.func11, Tryz.ntmps11
  go_wp2_with fail
  refine (Tells.of (may_any W D J S _) (v' := .bool false) (by rw [H0.out])).mono ?_
  rintro _ w1 ⟨rfl, z1⟩
  replace BX := Lib.hid (BX.out.below z1)
  replace BV := Lib.hid (BV.out.after z1)
  replace Z := Lib.hid (Z.out.trans (z1.mono Z.out.size))
  clear z1
  obtain ⟨_, c0, c1, c2, c3⟩ := BX.out
  obtain ⟨b0, b1, b2, b3, b4, b5, b6, b7, b8, b9, b10⟩ := BV.out.cells
  simp only at b0 b1 b2 b3 b4 b5 b6 b7 b8 b9 b10
  go_wp2
  go_ret
  exact ⟨rfl, Z.out⟩
set_option maxHeartbeats 4000000 in
theorem wmay_1 (hT : Fo.Tk n₀ w AT T) (hS : Fo.Ir n₀ w SA x.stk) (hn₀ : n₀ ≤ w.heap.size) (hsm : Fo.Sm T) (hl : x.stk.length ≤ 1000) (h0 : may W D J S = true) (h1 : decide ((n : Int) = sz W D J S) = false): Tells 11 #[cf W D J S, .slice AT T.length ct, .slice A n c, .int .i64 me, wv x (.slice SA x.stk.length cs)] w (.bool false) := by
  obtain ⟨p, s, ⟨o, fp, q, v, fx, y, r⟩, sp, lk⟩ := x
  simp only at hS hl ⊢
  have H0 := Lib.hid h0
  have H1 := Lib.hid h1
  have HT := Lib.hid hT
  have HS := Lib.hid hS
  have HN := Lib.hid hn₀
  have HSM := Lib.hid hsm
  have HL := Lib.hid hl
  clear hT hS hn₀ hsm hl h0 h1
  have Z := Lib.hid (((bel_alloc w (.cells #[.int .i64 W, .int .i64 D, .int .i64 J, .int .i64 S] 23))).trans ((bel_alloc (w.alloc (.cells #[.int .i64 W, .int .i64 D, .int .i64 J, .int .i64 S] 23)) (.cells #[.int .i64 p, .slice SA s.length cs, .int .i64 o, .int .i64 fp, .int .i64 q, .int .u64 v, .int .u64 fx, .int .u64 y, .int .i64 r, .int .i64 sp, .int .i64 lk] 32)).mono (by simp)))
  have BX := Lib.hid ((Bx.mk w W D J S 23).below (bel_alloc _ (.cells #[.int .i64 p, .slice SA s.length cs, .int .i64 o, .int .i64 fp, .int .i64 q, .int .u64 v, .int .u64 fx, .int .u64 y, .int .i64 r, .int .i64 sp, .int .i64 lk] 32)))
  have BV := Lib.hid (Wvb.new1 (w.alloc (.cells #[.int .i64 W, .int .i64 D, .int .i64 J, .int .i64 S] 23)) (g := w.heap.size + 1) ⟨p, s, ⟨o, fp, q, v, fx, y, r⟩, sp, lk⟩ (.slice SA s.length cs) (by simp))
  obtain ⟨z, hz⟩ : ∃ z, sz W D J S = z := ⟨_, rfl⟩
  have HZ := Lib.hid hz
  have hnz : ((n : Int) == z) = false := by rw [← hz]; have := H1.out; simpa using this
  clear hz
  go_enter Tryz.func11, Tryz.ntmps11
  go_wp2_with fail
  refine (Tells.of (may_any W D J S _) (v' := .bool true) (by rw [H0.out])).mono ?_
  rintro _ w1 ⟨rfl, z1⟩
  replace BX := Lib.hid (BX.out.below z1)
  replace BV := Lib.hid (BV.out.after z1)
  replace Z := Lib.hid (Z.out.trans (z1.mono Z.out.size))
  clear z1
  obtain ⟨_, c0, c1, c2, c3⟩ := BX.out
  obtain ⟨b0, b1, b2, b3, b4, b5, b6, b7, b8, b9, b10⟩ := BV.out.cells
  simp only at b0 b1 b2 b3 b4 b5 b6 b7 b8 b9 b10
  go_wp2_with fail
  refine (Tells.of (size_any W D J S _) (v' := .int .i64 z) (by rw [HZ.out])).mono ?_
  rintro _ w2 ⟨rfl, z1⟩
  clear c0 c1 c2 c3 b0 b1 b2 b3 b4 b5 b6 b7 b8 b9 b10
  replace BX := Lib.hid (BX.out.below z1)
  replace BV := Lib.hid (BV.out.after z1)
  replace Z := Lib.hid (Z.out.trans (z1.mono Z.out.size))
  clear z1
  obtain ⟨_, c0, c1, c2, c3⟩ := BX.out
  obtain ⟨b0, b1, b2, b3, b4, b5, b6, b7, b8, b9, b10⟩ := BV.out.cells
  simp only at b0 b1 b2 b3 b4 b5 b6 b7 b8 b9 b10
  go_wp2
  go_ret
  exact ⟨rfl, Z.out⟩
set_option maxHeartbeats 4000000 in
theorem wmay_2 (hT : Fo.Tk n₀ w AT T) (hS : Fo.Ir n₀ w SA x.stk) (hn₀ : n₀ ≤ w.heap.size) (hsm : Fo.Sm T) (hl : x.stk.length ≤ 1000) (h0 : may W D J S = true) (h1 : decide ((n : Int) = sz W D J S) = true) (h2 : Fo.may T = false): Tells 11 #[cf W D J S, .slice AT T.length ct, .slice A n c, .int .i64 me, wv x (.slice SA x.stk.length cs)] w (.bool false) := by
  obtain ⟨p, s, ⟨o, fp, q, v, fx, y, r⟩, sp, lk⟩ := x
  simp only at hS hl ⊢
  have H0 := Lib.hid h0
  have H1 := Lib.hid h1
  have H2 := Lib.hid h2
  have HT := Lib.hid hT
  have HS := Lib.hid hS
  have HN := Lib.hid hn₀
  have HSM := Lib.hid hsm
  have HL := Lib.hid hl
  clear hT hS hn₀ hsm hl h0 h1 h2
  have Z := Lib.hid (((bel_alloc w (.cells #[.int .i64 W, .int .i64 D, .int .i64 J, .int .i64 S] 23))).trans ((bel_alloc (w.alloc (.cells #[.int .i64 W, .int .i64 D, .int .i64 J, .int .i64 S] 23)) (.cells #[.int .i64 p, .slice SA s.length cs, .int .i64 o, .int .i64 fp, .int .i64 q, .int .u64 v, .int .u64 fx, .int .u64 y, .int .i64 r, .int .i64 sp, .int .i64 lk] 32)).mono (by simp)))
  have BX := Lib.hid ((Bx.mk w W D J S 23).below (bel_alloc _ (.cells #[.int .i64 p, .slice SA s.length cs, .int .i64 o, .int .i64 fp, .int .i64 q, .int .u64 v, .int .u64 fx, .int .u64 y, .int .i64 r, .int .i64 sp, .int .i64 lk] 32)))
  have BV := Lib.hid (Wvb.new1 (w.alloc (.cells #[.int .i64 W, .int .i64 D, .int .i64 J, .int .i64 S] 23)) (g := w.heap.size + 1) ⟨p, s, ⟨o, fp, q, v, fx, y, r⟩, sp, lk⟩ (.slice SA s.length cs) (by simp))
  obtain ⟨z, hz⟩ : ∃ z, sz W D J S = z := ⟨_, rfl⟩
  have HZ := Lib.hid hz
  have hnz : ((n : Int) == z) = true := by rw [← hz]; have := H1.out; simpa using this
  clear hz
  go_enter Tryz.func11, Tryz.ntmps11
  go_wp2_with fail
  refine (Tells.of (may_any W D J S _) (v' := .bool true) (by rw [H0.out])).mono ?_
  rintro _ w1 ⟨rfl, z1⟩
  replace BX := Lib.hid (BX.out.below z1)
  replace BV := Lib.hid (BV.out.after z1)
  replace Z := Lib.hid (Z.out.trans (z1.mono Z.out.size))
  clear z1
  obtain ⟨_, c0, c1, c2, c3⟩ := BX.out
  obtain ⟨b0, b1, b2, b3, b4, b5, b6, b7, b8, b9, b10⟩ := BV.out.cells
  simp only at b0 b1 b2 b3 b4 b5 b6 b7 b8 b9 b10
  go_wp2_with fail
  refine (Tells.of (size_any W D J S _) (v' := .int .i64 z) (by rw [HZ.out])).mono ?_
  rintro _ w2 ⟨rfl, z1⟩
  clear c0 c1 c2 c3 b0 b1 b2 b3 b4 b5 b6 b7 b8 b9 b10
  replace BX := Lib.hid (BX.out.below z1)
  replace BV := Lib.hid (BV.out.after z1)
  replace Z := Lib.hid (Z.out.trans (z1.mono Z.out.size))
  clear z1
  obtain ⟨_, c0, c1, c2, c3⟩ := BX.out
  obtain ⟨b0, b1, b2, b3, b4, b5, b6, b7, b8, b9, b10⟩ := BV.out.cells
  simp only at b0 b1 b2 b3 b4 b5 b6 b7 b8 b9 b10
  go_wp2_with fail
  refine (Tells.of (Fo.may_any AT ct n₀ T _ (HT.out.below (Z.out.mono HN.out)) (Nat.le_trans HN.out Z.out.size) HSM.out) (v' := .bool false) (by rw [H2.out])).mono ?_
  rintro _ w3 ⟨rfl, z1⟩
  clear c0 c1 c2 c3 b0 b1 b2 b3 b4 b5 b6 b7 b8 b9 b10
  replace BX := Lib.hid (BX.out.below z1)
  replace BV := Lib.hid (BV.out.after z1)
  replace Z := Lib.hid (Z.out.trans (z1.mono Z.out.size))
  clear z1
  obtain ⟨_, c0, c1, c2, c3⟩ := BX.out
  obtain ⟨b0, b1, b2, b3, b4, b5, b6, b7, b8, b9, b10⟩ := BV.out.cells
  simp only at b0 b1 b2 b3 b4 b5 b6 b7 b8 b9 b10
  go_wp2
  go_ret
  exact ⟨rfl, Z.out⟩
set_option maxHeartbeats 4000000 in
theorem wmay_3 (hT : Fo.Tk n₀ w AT T) (hS : Fo.Ir n₀ w SA x.stk) (hn₀ : n₀ ≤ w.heap.size) (hsm : Fo.Sm T) (hl : x.stk.length ≤ 1000) (h0 : may W D J S = true) (h1 : decide ((n : Int) = sz W D J S) = true) (h2 : Fo.may T = true) (h3 : (decide (0 ≤ me) && decide (me < W)) = false): Tells 11 #[cf W D J S, .slice AT T.length ct, .slice A n c, .int .i64 me, wv x (.slice SA x.stk.length cs)] w (.bool false) := by
  obtain ⟨p, s, ⟨o, fp, q, v, fx, y, r⟩, sp, lk⟩ := x
  simp only at hS hl ⊢
  have H0 := Lib.hid h0
  have H1 := Lib.hid h1
  have H2 := Lib.hid h2
  have H3 := Lib.hid h3
  have HT := Lib.hid hT
  have HS := Lib.hid hS
  have HN := Lib.hid hn₀
  have HSM := Lib.hid hsm
  have HL := Lib.hid hl
  clear hT hS hn₀ hsm hl h0 h1 h2 h3
  have Z := Lib.hid (((bel_alloc w (.cells #[.int .i64 W, .int .i64 D, .int .i64 J, .int .i64 S] 23))).trans ((bel_alloc (w.alloc (.cells #[.int .i64 W, .int .i64 D, .int .i64 J, .int .i64 S] 23)) (.cells #[.int .i64 p, .slice SA s.length cs, .int .i64 o, .int .i64 fp, .int .i64 q, .int .u64 v, .int .u64 fx, .int .u64 y, .int .i64 r, .int .i64 sp, .int .i64 lk] 32)).mono (by simp)))
  have BX := Lib.hid ((Bx.mk w W D J S 23).below (bel_alloc _ (.cells #[.int .i64 p, .slice SA s.length cs, .int .i64 o, .int .i64 fp, .int .i64 q, .int .u64 v, .int .u64 fx, .int .u64 y, .int .i64 r, .int .i64 sp, .int .i64 lk] 32)))
  have BV := Lib.hid (Wvb.new1 (w.alloc (.cells #[.int .i64 W, .int .i64 D, .int .i64 J, .int .i64 S] 23)) (g := w.heap.size + 1) ⟨p, s, ⟨o, fp, q, v, fx, y, r⟩, sp, lk⟩ (.slice SA s.length cs) (by simp))
  obtain ⟨z, hz⟩ : ∃ z, sz W D J S = z := ⟨_, rfl⟩
  have HZ := Lib.hid hz
  have hnz : ((n : Int) == z) = true := by rw [← hz]; have := H1.out; simpa using this
  clear hz
  go_enter Tryz.func11, Tryz.ntmps11
  go_wp2_with fail
  refine (Tells.of (may_any W D J S _) (v' := .bool true) (by rw [H0.out])).mono ?_
  rintro _ w1 ⟨rfl, z1⟩
  replace BX := Lib.hid (BX.out.below z1)
  replace BV := Lib.hid (BV.out.after z1)
  replace Z := Lib.hid (Z.out.trans (z1.mono Z.out.size))
  clear z1
  obtain ⟨_, c0, c1, c2, c3⟩ := BX.out
  obtain ⟨b0, b1, b2, b3, b4, b5, b6, b7, b8, b9, b10⟩ := BV.out.cells
  simp only at b0 b1 b2 b3 b4 b5 b6 b7 b8 b9 b10
  go_wp2_with fail
  refine (Tells.of (size_any W D J S _) (v' := .int .i64 z) (by rw [HZ.out])).mono ?_
  rintro _ w2 ⟨rfl, z1⟩
  clear c0 c1 c2 c3 b0 b1 b2 b3 b4 b5 b6 b7 b8 b9 b10
  replace BX := Lib.hid (BX.out.below z1)
  replace BV := Lib.hid (BV.out.after z1)
  replace Z := Lib.hid (Z.out.trans (z1.mono Z.out.size))
  clear z1
  obtain ⟨_, c0, c1, c2, c3⟩ := BX.out
  obtain ⟨b0, b1, b2, b3, b4, b5, b6, b7, b8, b9, b10⟩ := BV.out.cells
  simp only at b0 b1 b2 b3 b4 b5 b6 b7 b8 b9 b10
  go_wp2_with fail
  refine (Tells.of (Fo.may_any AT ct n₀ T _ (HT.out.below (Z.out.mono HN.out)) (Nat.le_trans HN.out Z.out.size) HSM.out) (v' := .bool true) (by rw [H2.out])).mono ?_
  rintro _ w3 ⟨rfl, z1⟩
  clear c0 c1 c2 c3 b0 b1 b2 b3 b4 b5 b6 b7 b8 b9 b10
  replace BX := Lib.hid (BX.out.below z1)
  replace BV := Lib.hid (BV.out.after z1)
  replace Z := Lib.hid (Z.out.trans (z1.mono Z.out.size))
  clear z1
  obtain ⟨_, c0, c1, c2, c3⟩ := BX.out
  obtain ⟨b0, b1, b2, b3, b4, b5, b6, b7, b8, b9, b10⟩ := BV.out.cells
  simp only at b0 b1 b2 b3 b4 b5 b6 b7 b8 b9 b10
  go_wp2_with fail
  refine (Gives.of (wbelow_any me W _) (v' := .bool false) (by rw [H3.out])).mono ?_
  rintro _ wz ⟨rfl, ez⟩
  rw [ez]
  clear ez wz
  go_wp2
  go_ret
  exact ⟨rfl, Z.out⟩
set_option maxHeartbeats 4000000 in
theorem wmay_4 (hT : Fo.Tk n₀ w AT T) (hS : Fo.Ir n₀ w SA x.stk) (hn₀ : n₀ ≤ w.heap.size) (hsm : Fo.Sm T) (hl : x.stk.length ≤ 1000) (h0 : may W D J S = true) (h1 : decide ((n : Int) = sz W D J S) = true) (h2 : Fo.may T = true) (h3 : (decide (0 ≤ me) && decide (me < W)) = true) (h4 : (decide (0 ≤ x.pc) && decide (x.pc < 16)) = false): Tells 11 #[cf W D J S, .slice AT T.length ct, .slice A n c, .int .i64 me, wv x (.slice SA x.stk.length cs)] w (.bool false) := by
  obtain ⟨p, s, ⟨o, fp, q, v, fx, y, r⟩, sp, lk⟩ := x
  simp only at hS hl h4 ⊢
  have H0 := Lib.hid h0
  have H1 := Lib.hid h1
  have H2 := Lib.hid h2
  have H3 := Lib.hid h3
  have H4 := Lib.hid h4
  have HT := Lib.hid hT
  have HS := Lib.hid hS
  have HN := Lib.hid hn₀
  have HSM := Lib.hid hsm
  have HL := Lib.hid hl
  clear hT hS hn₀ hsm hl h0 h1 h2 h3 h4
  have Z := Lib.hid (((bel_alloc w (.cells #[.int .i64 W, .int .i64 D, .int .i64 J, .int .i64 S] 23))).trans ((bel_alloc (w.alloc (.cells #[.int .i64 W, .int .i64 D, .int .i64 J, .int .i64 S] 23)) (.cells #[.int .i64 p, .slice SA s.length cs, .int .i64 o, .int .i64 fp, .int .i64 q, .int .u64 v, .int .u64 fx, .int .u64 y, .int .i64 r, .int .i64 sp, .int .i64 lk] 32)).mono (by simp)))
  have BX := Lib.hid ((Bx.mk w W D J S 23).below (bel_alloc _ (.cells #[.int .i64 p, .slice SA s.length cs, .int .i64 o, .int .i64 fp, .int .i64 q, .int .u64 v, .int .u64 fx, .int .u64 y, .int .i64 r, .int .i64 sp, .int .i64 lk] 32)))
  have BV := Lib.hid (Wvb.new1 (w.alloc (.cells #[.int .i64 W, .int .i64 D, .int .i64 J, .int .i64 S] 23)) (g := w.heap.size + 1) ⟨p, s, ⟨o, fp, q, v, fx, y, r⟩, sp, lk⟩ (.slice SA s.length cs) (by simp))
  obtain ⟨z, hz⟩ : ∃ z, sz W D J S = z := ⟨_, rfl⟩
  have HZ := Lib.hid hz
  have hnz : ((n : Int) == z) = true := by rw [← hz]; have := H1.out; simpa using this
  clear hz
  go_enter Tryz.func11, Tryz.ntmps11
  go_wp2_with fail
  refine (Tells.of (may_any W D J S _) (v' := .bool true) (by rw [H0.out])).mono ?_
  rintro _ w1 ⟨rfl, z1⟩
  replace BX := Lib.hid (BX.out.below z1)
  replace BV := Lib.hid (BV.out.after z1)
  replace Z := Lib.hid (Z.out.trans (z1.mono Z.out.size))
  clear z1
  obtain ⟨_, c0, c1, c2, c3⟩ := BX.out
  obtain ⟨b0, b1, b2, b3, b4, b5, b6, b7, b8, b9, b10⟩ := BV.out.cells
  simp only at b0 b1 b2 b3 b4 b5 b6 b7 b8 b9 b10
  go_wp2_with fail
  refine (Tells.of (size_any W D J S _) (v' := .int .i64 z) (by rw [HZ.out])).mono ?_
  rintro _ w2 ⟨rfl, z1⟩
  clear c0 c1 c2 c3 b0 b1 b2 b3 b4 b5 b6 b7 b8 b9 b10
  replace BX := Lib.hid (BX.out.below z1)
  replace BV := Lib.hid (BV.out.after z1)
  replace Z := Lib.hid (Z.out.trans (z1.mono Z.out.size))
  clear z1
  obtain ⟨_, c0, c1, c2, c3⟩ := BX.out
  obtain ⟨b0, b1, b2, b3, b4, b5, b6, b7, b8, b9, b10⟩ := BV.out.cells
  simp only at b0 b1 b2 b3 b4 b5 b6 b7 b8 b9 b10
  go_wp2_with fail
  refine (Tells.of (Fo.may_any AT ct n₀ T _ (HT.out.below (Z.out.mono HN.out)) (Nat.le_trans HN.out Z.out.size) HSM.out) (v' := .bool true) (by rw [H2.out])).mono ?_
  rintro _ w3 ⟨rfl, z1⟩
  clear c0 c1 c2 c3 b0 b1 b2 b3 b4 b5 b6 b7 b8 b9 b10
  replace BX := Lib.hid (BX.out.below z1)
  replace BV := Lib.hid (BV.out.after z1)
  replace Z := Lib.hid (Z.out.trans (z1.mono Z.out.size))
  clear z1
  obtain ⟨_, c0, c1, c2, c3⟩ := BX.out
  obtain ⟨b0, b1, b2, b3, b4, b5, b6, b7, b8, b9, b10⟩ := BV.out.cells
  simp only at b0 b1 b2 b3 b4 b5 b6 b7 b8 b9 b10
  go_wp2_with fail
  refine (Gives.of (wbelow_any me W _) (v' := .bool true) (by rw [H3.out])).mono ?_
  rintro _ wz ⟨rfl, ez⟩
  rw [ez]
  clear ez wz
  go_wp2_with fail
  refine (Gives.of (wbelow_any p 16 _) (v' := .bool false) (by rw [H4.out])).mono ?_
  rintro _ wz ⟨rfl, ez⟩
  rw [ez]
  clear ez wz
  go_wp2
  go_ret
  exact ⟨rfl, Z.out⟩
set_option maxHeartbeats 4000000 in
theorem wmay_5 (hT : Fo.Tk n₀ w AT T) (hS : Fo.Ir n₀ w SA x.stk) (hn₀ : n₀ ≤ w.heap.size) (hsm : Fo.Sm T) (hl : x.stk.length ≤ 1000) (h0 : may W D J S = true) (h1 : decide ((n : Int) = sz W D J S) = true) (h2 : Fo.may T = true) (h3 : (decide (0 ≤ me) && decide (me < W)) = true) (h4 : (decide (0 ≤ x.pc) && decide (x.pc < 16)) = true) (h5 : Fo.mayS T x.stk = false): Tells 11 #[cf W D J S, .slice AT T.length ct, .slice A n c, .int .i64 me, wv x (.slice SA x.stk.length cs)] w (.bool false) := by
  obtain ⟨p, s, ⟨o, fp, q, v, fx, y, r⟩, sp, lk⟩ := x
  simp only at hS hl h4  h5 ⊢
  have H0 := Lib.hid h0
  have H1 := Lib.hid h1
  have H2 := Lib.hid h2
  have H3 := Lib.hid h3
  have H4 := Lib.hid h4
  have H5 := Lib.hid h5
  have HT := Lib.hid hT
  have HS := Lib.hid hS
  have HN := Lib.hid hn₀
  have HSM := Lib.hid hsm
  have HL := Lib.hid hl
  clear hT hS hn₀ hsm hl h0 h1 h2 h3 h4 h5
  have Z := Lib.hid (((bel_alloc w (.cells #[.int .i64 W, .int .i64 D, .int .i64 J, .int .i64 S] 23))).trans ((bel_alloc (w.alloc (.cells #[.int .i64 W, .int .i64 D, .int .i64 J, .int .i64 S] 23)) (.cells #[.int .i64 p, .slice SA s.length cs, .int .i64 o, .int .i64 fp, .int .i64 q, .int .u64 v, .int .u64 fx, .int .u64 y, .int .i64 r, .int .i64 sp, .int .i64 lk] 32)).mono (by simp)))
  have BX := Lib.hid ((Bx.mk w W D J S 23).below (bel_alloc _ (.cells #[.int .i64 p, .slice SA s.length cs, .int .i64 o, .int .i64 fp, .int .i64 q, .int .u64 v, .int .u64 fx, .int .u64 y, .int .i64 r, .int .i64 sp, .int .i64 lk] 32)))
  have BV := Lib.hid (Wvb.new1 (w.alloc (.cells #[.int .i64 W, .int .i64 D, .int .i64 J, .int .i64 S] 23)) (g := w.heap.size + 1) ⟨p, s, ⟨o, fp, q, v, fx, y, r⟩, sp, lk⟩ (.slice SA s.length cs) (by simp))
  obtain ⟨z, hz⟩ : ∃ z, sz W D J S = z := ⟨_, rfl⟩
  have HZ := Lib.hid hz
  have hnz : ((n : Int) == z) = true := by rw [← hz]; have := H1.out; simpa using this
  clear hz
  go_enter Tryz.func11, Tryz.ntmps11
  go_wp2_with fail
  refine (Tells.of (may_any W D J S _) (v' := .bool true) (by rw [H0.out])).mono ?_
  rintro _ w1 ⟨rfl, z1⟩
  replace BX := Lib.hid (BX.out.below z1)
  replace BV := Lib.hid (BV.out.after z1)
  replace Z := Lib.hid (Z.out.trans (z1.mono Z.out.size))
  clear z1
  obtain ⟨_, c0, c1, c2, c3⟩ := BX.out
  obtain ⟨b0, b1, b2, b3, b4, b5, b6, b7, b8, b9, b10⟩ := BV.out.cells
  simp only at b0 b1 b2 b3 b4 b5 b6 b7 b8 b9 b10
  go_wp2_with fail
  refine (Tells.of (size_any W D J S _) (v' := .int .i64 z) (by rw [HZ.out])).mono ?_
  rintro _ w2 ⟨rfl, z1⟩
  clear c0 c1 c2 c3 b0 b1 b2 b3 b4 b5 b6 b7 b8 b9 b10
  replace BX := Lib.hid (BX.out.below z1)
  replace BV := Lib.hid (BV.out.after z1)
  replace Z := Lib.hid (Z.out.trans (z1.mono Z.out.size))
  clear z1
  obtain ⟨_, c0, c1, c2, c3⟩ := BX.out
  obtain ⟨b0, b1, b2, b3, b4, b5, b6, b7, b8, b9, b10⟩ := BV.out.cells
  simp only at b0 b1 b2 b3 b4 b5 b6 b7 b8 b9 b10
  go_wp2_with fail
  refine (Tells.of (Fo.may_any AT ct n₀ T _ (HT.out.below (Z.out.mono HN.out)) (Nat.le_trans HN.out Z.out.size) HSM.out) (v' := .bool true) (by rw [H2.out])).mono ?_
  rintro _ w3 ⟨rfl, z1⟩
  clear c0 c1 c2 c3 b0 b1 b2 b3 b4 b5 b6 b7 b8 b9 b10
  replace BX := Lib.hid (BX.out.below z1)
  replace BV := Lib.hid (BV.out.after z1)
  replace Z := Lib.hid (Z.out.trans (z1.mono Z.out.size))
  clear z1
  obtain ⟨_, c0, c1, c2, c3⟩ := BX.out
  obtain ⟨b0, b1, b2, b3, b4, b5, b6, b7, b8, b9, b10⟩ := BV.out.cells
  simp only at b0 b1 b2 b3 b4 b5 b6 b7 b8 b9 b10
  go_wp2_with fail
  refine (Gives.of (wbelow_any me W _) (v' := .bool true) (by rw [H3.out])).mono ?_
  rintro _ wz ⟨rfl, ez⟩
  rw [ez]
  clear ez wz
  go_wp2_with fail
  refine (Gives.of (wbelow_any p 16 _) (v' := .bool true) (by rw [H4.out])).mono ?_
  rintro _ wz ⟨rfl, ez⟩
  rw [ez]
  clear ez wz
  go_wp2_with fail
  refine (Fo.kmay ((HT.out.below (Z.out.mono HN.out)).mono (Nat.le_trans HN.out Z.out.size)) ((HS.out.below (Z.out.mono HN.out)).mono (Nat.le_trans HN.out Z.out.size)) HSM.out rfl rfl HL.out (q := false) H5.out).mono ?_
  rintro _ w6 ⟨rfl, z1⟩
  clear c0 c1 c2 c3 b0 b1 b2 b3 b4 b5 b6 b7 b8 b9 b10
  replace BX := Lib.hid (BX.out.below z1)
  replace BV := Lib.hid (BV.out.after z1)
  replace Z := Lib.hid (Z.out.trans (z1.mono Z.out.size))
  clear z1
  obtain ⟨_, c0, c1, c2, c3⟩ := BX.out
  obtain ⟨b0, b1, b2, b3, b4, b5, b6, b7, b8, b9, b10⟩ := BV.out.cells
  simp only at b0 b1 b2 b3 b4 b5 b6 b7 b8 b9 b10
  go_wp2
  go_ret
  exact ⟨rfl, Z.out⟩
set_option maxHeartbeats 4000000 in
theorem wmay_ok (hT : Fo.Tk n₀ w AT T) (hS : Fo.Ir n₀ w SA x.stk) (hn₀ : n₀ ≤ w.heap.size) (hsm : Fo.Sm T) (hl : x.stk.length ≤ 1000) (h0 : may W D J S = true) (h1 : decide ((n : Int) = sz W D J S) = true) (h2 : Fo.may T = true) (h3 : (decide (0 ≤ me) && decide (me < W)) = true) (h4 : (decide (0 ≤ x.pc) && decide (x.pc < 16)) = true) (h5 : Fo.mayS T x.stk = true): Tells 11 #[cf W D J S, .slice AT T.length ct, .slice A n c, .int .i64 me, wv x (.slice SA x.stk.length cs)] w (.bool true) := by
  obtain ⟨p, s, ⟨o, fp, q, v, fx, y, r⟩, sp, lk⟩ := x
  simp only at hS hl h4  h5 ⊢
  have H0 := Lib.hid h0
  have H1 := Lib.hid h1
  have H2 := Lib.hid h2
  have H3 := Lib.hid h3
  have H4 := Lib.hid h4
  have H5 := Lib.hid h5
  have HT := Lib.hid hT
  have HS := Lib.hid hS
  have HN := Lib.hid hn₀
  have HSM := Lib.hid hsm
  have HL := Lib.hid hl
  clear hT hS hn₀ hsm hl h0 h1 h2 h3 h4 h5
  have Z := Lib.hid (((bel_alloc w (.cells #[.int .i64 W, .int .i64 D, .int .i64 J, .int .i64 S] 23))).trans ((bel_alloc (w.alloc (.cells #[.int .i64 W, .int .i64 D, .int .i64 J, .int .i64 S] 23)) (.cells #[.int .i64 p, .slice SA s.length cs, .int .i64 o, .int .i64 fp, .int .i64 q, .int .u64 v, .int .u64 fx, .int .u64 y, .int .i64 r, .int .i64 sp, .int .i64 lk] 32)).mono (by simp)))
  have BX := Lib.hid ((Bx.mk w W D J S 23).below (bel_alloc _ (.cells #[.int .i64 p, .slice SA s.length cs, .int .i64 o, .int .i64 fp, .int .i64 q, .int .u64 v, .int .u64 fx, .int .u64 y, .int .i64 r, .int .i64 sp, .int .i64 lk] 32)))
  have BV := Lib.hid (Wvb.new1 (w.alloc (.cells #[.int .i64 W, .int .i64 D, .int .i64 J, .int .i64 S] 23)) (g := w.heap.size + 1) ⟨p, s, ⟨o, fp, q, v, fx, y, r⟩, sp, lk⟩ (.slice SA s.length cs) (by simp))
  obtain ⟨z, hz⟩ : ∃ z, sz W D J S = z := ⟨_, rfl⟩
  have HZ := Lib.hid hz
  have hnz : ((n : Int) == z) = true := by rw [← hz]; have := H1.out; simpa using this
  clear hz
  go_enter Tryz.func11, Tryz.ntmps11
  go_wp2_with fail
  refine (Tells.of (may_any W D J S _) (v' := .bool true) (by rw [H0.out])).mono ?_
  rintro _ w1 ⟨rfl, z1⟩
  replace BX := Lib.hid (BX.out.below z1)
  replace BV := Lib.hid (BV.out.after z1)
  replace Z := Lib.hid (Z.out.trans (z1.mono Z.out.size))
  clear z1
  obtain ⟨_, c0, c1, c2, c3⟩ := BX.out
  obtain ⟨b0, b1, b2, b3, b4, b5, b6, b7, b8, b9, b10⟩ := BV.out.cells
  simp only at b0 b1 b2 b3 b4 b5 b6 b7 b8 b9 b10
  go_wp2_with fail
  refine (Tells.of (size_any W D J S _) (v' := .int .i64 z) (by rw [HZ.out])).mono ?_
  rintro _ w2 ⟨rfl, z1⟩
  clear c0 c1 c2 c3 b0 b1 b2 b3 b4 b5 b6 b7 b8 b9 b10
  replace BX := Lib.hid (BX.out.below z1)
  replace BV := Lib.hid (BV.out.after z1)
  replace Z := Lib.hid (Z.out.trans (z1.mono Z.out.size))
  clear z1
  obtain ⟨_, c0, c1, c2, c3⟩ := BX.out
  obtain ⟨b0, b1, b2, b3, b4, b5, b6, b7, b8, b9, b10⟩ := BV.out.cells
  simp only at b0 b1 b2 b3 b4 b5 b6 b7 b8 b9 b10
  go_wp2_with fail
  refine (Tells.of (Fo.may_any AT ct n₀ T _ (HT.out.below (Z.out.mono HN.out)) (Nat.le_trans HN.out Z.out.size) HSM.out) (v' := .bool true) (by rw [H2.out])).mono ?_
  rintro _ w3 ⟨rfl, z1⟩
  clear c0 c1 c2 c3 b0 b1 b2 b3 b4 b5 b6 b7 b8 b9 b10
  replace BX := Lib.hid (BX.out.below z1)
  replace BV := Lib.hid (BV.out.after z1)
  replace Z := Lib.hid (Z.out.trans (z1.mono Z.out.size))
  clear z1
  obtain ⟨_, c0, c1, c2, c3⟩ := BX.out
  obtain ⟨b0, b1, b2, b3, b4, b5, b6, b7, b8, b9, b10⟩ := BV.out.cells
  simp only at b0 b1 b2 b3 b4 b5 b6 b7 b8 b9 b10
  go_wp2_with fail
  refine (Gives.of (wbelow_any me W _) (v' := .bool true) (by rw [H3.out])).mono ?_
  rintro _ wz ⟨rfl, ez⟩
  rw [ez]
  clear ez wz
  go_wp2_with fail
  refine (Gives.of (wbelow_any p 16 _) (v' := .bool true) (by rw [H4.out])).mono ?_
  rintro _ wz ⟨rfl, ez⟩
  rw [ez]
  clear ez wz
  go_wp2_with fail
  refine (Fo.kmay ((HT.out.below (Z.out.mono HN.out)).mono (Nat.le_trans HN.out Z.out.size)) ((HS.out.below (Z.out.mono HN.out)).mono (Nat.le_trans HN.out Z.out.size)) HSM.out rfl rfl HL.out (q := true) H5.out).mono ?_
  rintro _ w6 ⟨rfl, z1⟩
  clear c0 c1 c2 c3 b0 b1 b2 b3 b4 b5 b6 b7 b8 b9 b10
  replace BX := Lib.hid (BX.out.below z1)
  replace BV := Lib.hid (BV.out.after z1)
  replace Z := Lib.hid (Z.out.trans (z1.mono Z.out.size))
  clear z1
  obtain ⟨_, c0, c1, c2, c3⟩ := BX.out
  obtain ⟨b0, b1, b2, b3, b4, b5, b6, b7, b8, b9, b10⟩ := BV.out.cells
  simp only at b0 b1 b2 b3 b4 b5 b6 b7 b8 b9 b10
  go_wp2
  go_ret
  exact ⟨rfl, Z.out⟩
theorem wmay_eq (hn : m.length = n) : mayW W D J S T m me x = (may W D J S && decide ((n : Int) = sz W D J S) && Fo.may T && (decide (0 ≤ me) && decide (me < W)) && (decide (0 ≤ x.pc) && decide (x.pc < 16)) && Fo.mayS T x.stk) := by
  unfold mayW okw
  rw [hn]
  cases hs : Fo.mayS T x.stk
  · simp
  · rw [(Fo.mayS_all hs).1]
    rw [Bool.eq_iff_iff]
    simp only [Bool.and_eq_true, decide_eq_true_eq, Bool.and_true]
    constructor
    · rintro ⟨⟨⟨⟨⟨a, b⟩, c⟩, d⟩, e⟩, f⟩
      exact ⟨⟨⟨a, b⟩, c, d⟩, e, by omega⟩
    · rintro ⟨⟨⟨a, b⟩, c, d⟩, e, f⟩
      exact ⟨⟨⟨⟨⟨a, b⟩, c⟩, d⟩, e⟩, by omega⟩
theorem wmay_any (hT : Fo.Tk n₀ w AT T) (hS : Fo.Ir n₀ w SA x.stk) (hn₀ : n₀ ≤ w.heap.size) (hsm : Fo.Sm T) (hl : x.stk.length ≤ 1000) (hn : m.length = n) : Tells 11 #[cf W D J S, .slice AT T.length ct, .slice A n c, .int .i64 me, wv x (.slice SA x.stk.length cs)] w (.bool (mayW W D J S T m me x)) := by
  rw [wmay_eq hn]
  cases h0 : may W D J S
  · exact Tells.of (wmay_0 hT hS hn₀ hsm hl h0) rfl
  cases h1 : decide ((n : Int) = sz W D J S)
  · exact Tells.of (wmay_1 hT hS hn₀ hsm hl h0 h1) rfl
  cases h2 : Fo.may T
  · exact Tells.of (wmay_2 hT hS hn₀ hsm hl h0 h1 h2) rfl
  cases h3 : (decide (0 ≤ me) && decide (me < W))
  · exact Tells.of (wmay_3 hT hS hn₀ hsm hl h0 h1 h2 h3) rfl
  cases h4 : (decide (0 ≤ x.pc) && decide (x.pc < 16))
  · exact Tells.of (wmay_4 hT hS hn₀ hsm hl h0 h1 h2 h3 h4) rfl
  cases h5 : Fo.mayS T x.stk
  · exact Tells.of (wmay_5 hT hS hn₀ hsm hl h0 h1 h2 h3 h4 h5) rfl
  · exact Tells.of (wmay_ok hT hS hn₀ hsm hl h0 h1 h2 h3 h4 h5) rfl
end
end Go.Proofs.YtlpkccpijloidaaGreat
