/- Two workers compared, what happened compared, few tasks, and: the worker is awake (layer 18). -/
import Derived.Test.YtlpkccpijloidaaGreatWkK
import Derived.Test.YtlpkccpijloidaaGreatEv2
namespace Go.Proofs.YtlpkccpijloidaaGreat
set_option maxRecDepth 100000
open Go.RowKit Go.Deep
/-- Two calls that differ by whom they are about. -/
theorem eql_frw {a b : Int} (h : (a == b) = false) (w : World) : (binOp .eql 30 (.agg #[.int .i64 2, .int .i64 0, .int .i64 a, .int .u64 0, .int .u64 0, .int .u64 0, .int .i64 0]) (.agg #[.int .i64 2, .int .i64 0, .int .i64 b, .int .u64 0, .int .u64 0, .int .u64 0, .int .i64 0])).run Tryz.prog w = .ok (.bool false) w := by
  have e : (Op.equalIn 10000 30 (.agg #[.int .i64 2, .int .i64 0, .int .i64 a, .int .u64 0, .int .u64 0, .int .u64 0, .int .i64 0]) (.agg #[.int .i64 2, .int .i64 0, .int .i64 b, .int .u64 0, .int .u64 0, .int .u64 0, .int .i64 0])).run Tryz.prog w = .ok false w := by
    have u3 := Tryz.underlying3
    have a3 := Tryz.isAgg3
    have z3 := Tryz.sizeOf3
    have u23 := Tryz.underlying28
    have a23 := Tryz.isAgg28
    have z23 := Tryz.sizeOf28
    have h' : ¬ a = b := by simpa using h
    rw [show (10000 : Nat) = 9999 + 1 from rfl, run_equalIn_agg w 9999 30 _ _ Tryz.struct30 Tryz.held30]
    simp only [Program.fieldsOf, Tryz.underlying30]
    go_simp
  rw [run_eql_struct, e]; rfl
attribute [local go_sem ↓] eql_fr guard_fr
section
variable {S1 S2 : Option Addr} {c1 c2 : Nat} {w : World}
set_option maxHeartbeats 4000000 in
theorem wsame_eq {x : WkS} (hS : Fo.Ir w.heap.size w S1 x.stk) (hS2 : Fo.Ir w.heap.size w S2 x.stk) (hl : x.stk.length ≤ 1000) : Tells 12 #[wv x (.slice S1 x.stk.length c1), wv x (.slice S2 x.stk.length c2)] w (.bool true) := by
  obtain ⟨p, s, ⟨o, fp, q, v, fx, y, r⟩, sp, lk⟩ := x
  simp only at hS hS2 hl
  have HS := Lib.hid hS
  have HS2 := Lib.hid hS2
  have HL := Lib.hid hl
  clear hS hS2 hl
  have Z := Lib.hid (((bel_alloc w (.cells #[.int .i64 p, .slice S1 s.length c1, .int .i64 o, .int .i64 fp, .int .i64 q, .int .u64 v, .int .u64 fx, .int .u64 y, .int .i64 r, .int .i64 sp, .int .i64 lk] 32))).trans ((bel_alloc (w.alloc (.cells #[.int .i64 p, .slice S1 s.length c1, .int .i64 o, .int .i64 fp, .int .i64 q, .int .u64 v, .int .u64 fx, .int .u64 y, .int .i64 r, .int .i64 sp, .int .i64 lk] 32)) (.cells #[.int .i64 p, .slice S2 s.length c2, .int .i64 o, .int .i64 fp, .int .i64 q, .int .u64 v, .int .u64 fx, .int .u64 y, .int .i64 r, .int .i64 sp, .int .i64 lk] 32)).mono (by simp)))
  have BX := Lib.hid ((Wvb.new w ⟨p, s, ⟨o, fp, q, v, fx, y, r⟩, sp, lk⟩ (.slice S1 s.length c1)).alloc (.cells #[.int .i64 p, .slice S2 s.length c2, .int .i64 o, .int .i64 fp, .int .i64 q, .int .u64 v, .int .u64 fx, .int .u64 y, .int .i64 r, .int .i64 sp, .int .i64 lk] 32))
  have BY := Lib.hid (Wvb.new1 (w.alloc (.cells #[.int .i64 p, .slice S1 s.length c1, .int .i64 o, .int .i64 fp, .int .i64 q, .int .u64 v, .int .u64 fx, .int .u64 y, .int .i64 r, .int .i64 sp, .int .i64 lk] 32)) (g := w.heap.size + 1) ⟨p, s, ⟨o, fp, q, v, fx, y, r⟩, sp, lk⟩ (.slice S2 s.length c2) (by simp))
  go_enter Tryz.func12, Tryz.ntmps12
  go_wp2_with fail
  refine (Fo.ksame (HS.out.later Z.out) (HS2.out.later Z.out) rfl rfl HL.out (q := true) (decide_eq_true rfl)).mono ?_
  rintro _ w1 ⟨rfl, z1⟩
  have BX1 := Lib.hid (BX.out.after z1)
  have BY1 := Lib.hid (BY.out.after z1)
  have Z1 := Lib.hid (Z.out.trans (z1.mono Z.out.size))
  clear z1
  obtain ⟨a0, a1, a2, a3, a4, a5, a6, a7, a8, a9, a10⟩ := BX1.out.cells
  obtain ⟨b0, b1, b2, b3, b4, b5, b6, b7, b8, b9, b10⟩ := BY1.out.cells
  simp only at a0 a1 a2 a3 a4 a5 a6 a7 a8 a9 a10 b0 b1 b2 b3 b4 b5 b6 b7 b8 b9 b10
  go_wp2
  go_ret
  exact ⟨rfl, Z1.out⟩
set_option maxHeartbeats 4000000 in
theorem wsame_who {a b sp lk : Int} {s : List Fo.Itm} (hab : (a == b) = false) (hS : Fo.Ir w.heap.size w S1 s) (hS2 : Fo.Ir w.heap.size w S2 s) (hl : s.length ≤ 1000) : Tells 12 #[wv ⟨3, s, fbg 2 a 0, sp, lk⟩ (.slice S1 s.length c1), wv ⟨3, s, fbg 2 b 0, sp, lk⟩ (.slice S2 s.length c2)] w (.bool false) := by
  have HS := Lib.hid hS
  have HS2 := Lib.hid hS2
  have HL := Lib.hid hl
  clear hS hS2 hl
  have Z := Lib.hid (((bel_alloc w (.cells #[.int .i64 3, .slice S1 s.length c1, .int .i64 2, .int .i64 0, .int .i64 a, .int .u64 0, .int .u64 0, .int .u64 0, .int .i64 0, .int .i64 sp, .int .i64 lk] 32))).trans ((bel_alloc (w.alloc (.cells #[.int .i64 3, .slice S1 s.length c1, .int .i64 2, .int .i64 0, .int .i64 a, .int .u64 0, .int .u64 0, .int .u64 0, .int .i64 0, .int .i64 sp, .int .i64 lk] 32)) (.cells #[.int .i64 3, .slice S2 s.length c2, .int .i64 2, .int .i64 0, .int .i64 b, .int .u64 0, .int .u64 0, .int .u64 0, .int .i64 0, .int .i64 sp, .int .i64 lk] 32)).mono (by simp)))
  have BX := Lib.hid ((Wvb.new w ⟨3, s, ⟨2, 0, a, 0, 0, 0, 0⟩, sp, lk⟩ (.slice S1 s.length c1)).alloc (.cells #[.int .i64 3, .slice S2 s.length c2, .int .i64 2, .int .i64 0, .int .i64 b, .int .u64 0, .int .u64 0, .int .u64 0, .int .i64 0, .int .i64 sp, .int .i64 lk] 32))
  have BY := Lib.hid (Wvb.new1 (w.alloc (.cells #[.int .i64 3, .slice S1 s.length c1, .int .i64 2, .int .i64 0, .int .i64 a, .int .u64 0, .int .u64 0, .int .u64 0, .int .i64 0, .int .i64 sp, .int .i64 lk] 32)) (g := w.heap.size + 1) ⟨3, s, ⟨2, 0, b, 0, 0, 0, 0⟩, sp, lk⟩ (.slice S2 s.length c2) (by simp))
  have hq := fun w => eql_frw hab w
  show Tells _ #[wv ⟨3, s, ⟨2, 0, a, 0, 0, 0, 0⟩, sp, lk⟩ (.slice S1 s.length c1), wv ⟨3, s, ⟨2, 0, b, 0, 0, 0, 0⟩, sp, lk⟩ (.slice S2 s.length c2)] w (.bool false)
  go_enter Tryz.func12, Tryz.ntmps12
  go_wp2_with fail
  refine (Fo.ksame (HS.out.later Z.out) (HS2.out.later Z.out) rfl rfl HL.out (q := true) (decide_eq_true rfl)).mono ?_
  rintro _ w1 ⟨rfl, z1⟩
  have BX1 := Lib.hid (BX.out.after z1)
  have BY1 := Lib.hid (BY.out.after z1)
  have Z1 := Lib.hid (Z.out.trans (z1.mono Z.out.size))
  clear z1
  obtain ⟨a0, a1, a2, a3, a4, a5, a6, a7, a8, a9, a10⟩ := BX1.out.cells
  obtain ⟨b0, b1, b2, b3, b4, b5, b6, b7, b8, b9, b10⟩ := BY1.out.cells
  simp only at a0 a1 a2 a3 a4 a5 a6 a7 a8 a9 a10 b0 b1 b2 b3 b4 b5 b6 b7 b8 b9 b10
  go_wp2
  go_ret
  exact ⟨rfl, Z1.out⟩
end
attribute [local go_sem ↓] Evx.neq_it Evx.guard_it
set_option maxHeartbeats 4000000 in
theorem revs_eq {A B : Option Addr} {c d : Nat} {l : List Evn} {w : World} (hA : Evx.Ir w.heap.size w A l) (hB : Evx.Ir w.heap.size w B l) (hl : l.length ≤ 10) : Tells 15 #[.slice A l.length c, .slice B l.length d] w (.bool true) := by
  have HA := Lib.hid hA
  have HB := Lib.hid hB
  clear hA hB
  go_enter Tryz.func15, Tryz.ntmps15
  go_wp2
  go_loopw [5] (fun i wr => ∃ j : Nat, i = .int .i64 j ∧ j ≤ l.length ∧ Hid (Below w.heap.size w wr)) (fun i _ => l.length - (intOf i).toNat)
  case atStart => exact ⟨0, rfl, Nat.zero_le _, Lib.hid (Below.refl _ _)⟩
  case round =>
    obtain ⟨j, rfl, hj, hZ⟩ := hrel
    by_cases hlt : j < l.length
    · obtain ⟨b, off, e, hb, h0, h1, h2⟩ := (HA.out.below hZ.out).at hlt
      obtain ⟨b', off', e', hb', h0', h1', h2'⟩ := (HB.out.below hZ.out).at hlt
      subst e e'
      obtain ⟨x1, x2, x3, hx⟩ : ∃ x1 x2 x3, l[j] = (x1, x2, x3) := ⟨_, _, _, rfl⟩
      rw [hx] at h0 h1 h2 h0' h1' h2'
      clear hx
      simp only at h0 h1 h2 h0' h1' h2'
      have hie : Evx.ie x1 x2 x3 x1 x2 x3 = true := decide_eq_true rfl
      have d1 : decide ((j : Int) < (l.length : Int)) = true := decide_eq_true (by omega)
      have d2 : (0 : Int) ≤ (j : Int) := by omega
      have d3 : (j : Int) < (l.length : Int) := by omega
      go_wp2
      go_quiet (fail)
      go_wp2
      go_roundw
      case rel => exact ⟨j + 1, by go_num, by omega, Lib.hid (hZ.out.trans ((below_drewN _ _).mono hZ.out.size))⟩
      case measure => simp [intOf]; omega
    · obtain rfl : j = l.length := by omega
      have d1 : decide (((l.length : Nat) : Int) < (l.length : Int)) = false := decide_eq_false (by omega)
      go_wp2
      go_ret
      exact ⟨rfl, hZ.out⟩
set_option maxHeartbeats 4000000 in
theorem wfew_any {AT SA : Option Addr} {ct cs : Nat} {T : List Fo.Tsk} {x : WkS} {w : World} {q : Bool} (hT : Fo.Tk w.heap.size w AT T) (hl : T.length ≤ maxLen) (hk : ∀ y ∈ T, y.2.length ≤ maxLen) (hq : (Fo.few T && decide ((x.stk.length : Int) ≤ 40)) = q) : Tells 9 #[.slice AT T.length ct, wv x (.slice SA x.stk.length cs)] w (.bool q) := by
  obtain ⟨p, s, ⟨o, fp, fq, v, fx, y, r⟩, sp, lk⟩ := x
  simp only at hq
  have HT := Lib.hid hT
  have HL := Lib.hid hl
  have HK := Lib.hid hk
  clear hT hl hk
  have Z := Lib.hid (bel_alloc w (.cells #[.int .i64 p, .slice SA s.length cs, .int .i64 o, .int .i64 fp, .int .i64 fq, .int .u64 v, .int .u64 fx, .int .u64 y, .int .i64 r, .int .i64 sp, .int .i64 lk] 32))
  cases hf : Fo.few T
  · rw [hf, Bool.false_and] at hq
    subst hq
    have HF := Lib.hid hf
    clear hf
    go_enter Tryz.func9, Tryz.ntmps9
    go_wp2_with fail
    refine (Fo.kfew _ (HT.out.later Z.out) HL.out HK.out rfl (q := false) HF.out).mono ?_
    rintro _ wz ⟨rfl, ez⟩
    rw [ez]
    clear ez wz
    go_wp2
    go_ret
    exact ⟨rfl, Z.out⟩
  · rw [hf, Bool.true_and] at hq
    have HF := Lib.hid hf
    have HQ := Lib.hid hq
    clear hf hq
    go_enter Tryz.func9, Tryz.ntmps9
    go_wp2_with fail
    refine (Fo.kfew _ (HT.out.later Z.out) HL.out HK.out rfl (q := true) HF.out).mono ?_
    rintro _ wz ⟨rfl, ez⟩
    rw [ez]
    clear ez wz
    go_wp2
    go_ret
    exact ⟨by rw [← HQ.out]; rfl, Z.out⟩
/-- The cells, and the worker, of the chapter's example, step by step. -/
def awM : Nat → List Int
  | 0 | 1 | 4 => [0, 0, 0, 0, 0, 0, 0, 0, 0, 0, 0, 0]
  | 2 | 3 => [0, 0, 0, 0, 0, 0, 0, 0, 0, 18446744073709551615, 0, 0]
  | _ => [0, 1, 0, 0, 0, 0, 0, 0, 0, 0, 0, 0]
def awX : Nat → WkS
  | 0 => ⟨0, [], ⟨1, 0, 0, 0, 0, 0, 0⟩, 0, 0⟩
  | 1 => ⟨0, [], ⟨1, 1, 0, 0, 18446744073709551615, 0, 0⟩, 0, 0⟩
  | 2 => ⟨0, [], ⟨1, 2, 0, 0, 18446744073709551615, 0, 0⟩, 0, 0⟩
  | 3 => ⟨0, [], ⟨1, 6, 0, 0, 18446744073709551615, 0, 0⟩, 0, 0⟩
  | 4 => ⟨1, [], ⟨0, 0, 0, 0, 0, 0, 0⟩, 0, 0⟩
  | 5 => ⟨2, [], ⟨4, 0, 0, 0, 0, 0, 0⟩, 0, 0⟩
  | 6 => ⟨2, [], ⟨4, 1, 0, 0, 0, 0, 0⟩, 0, 0⟩
  | _ => ⟨5, [], ⟨5, 0, 0, 0, 0, 0, 0⟩, 0, 0⟩
theorem startS_le (T : List Fo.Tsk) (s : List Fo.Itm) (k : Int) : (Fo.startS T s k).length ≤ s.length + 1 := by
  unfold Fo.startS
  split
  · simp
  · omega
theorem doS_le (T : List Fo.Tsk) (s : List Fo.Itm) : (Fo.doS T s).length ≤ s.length := by
  by_cases h : Fo.mayS T s = true
  · by_cases e : s = []
    · subst e; rw [Fo.doS_nil]; exact Nat.le_refl _
    · exact (Fo.less_S h e).2.2.1
  · have : Fo.doS T s = s := by unfold Fo.doS; rw [if_neg h]
    rw [this]; exact Nat.le_refl _
theorem endW_le {W : Int} {T : List Fo.Tsk} {w : Int} {x : WkS} {d : Int} : (endW W T w x d).1.stk.length ≤ x.stk.length + 1 := by
  unfold endW startW failW toW
  repeat' split
  all_goals first | exact startS_le _ _ _ | exact Nat.le_succ _
theorem stk_le {W D J S : Int} {T : List Fo.Tsk} {m : List Int} {w : Int} {x : WkS} {d : Int} (h : mayW W D J S T m w x = true) (hl : x.stk.length ≤ 900) : (stepW W D J S T m w x d).2.1.stk.length ≤ 1000 := by
  obtain ⟨_, _, h0, h15⟩ := mayW_iff.1 h
  obtain ⟨p, s, f, sp, lk⟩ := x
  simp only at h0 h15 hl
  have h1 := startS_le T s (wrap64 f.val)
  have h2 := doS_le T s
  have hs : s.length ≤ 1000 := by omega
  have h3 : (Fo.startS T s (wrap64 f.val)).length ≤ 1000 := by omega
  have h4 : (Fo.doS T s).length ≤ 1000 := by omega
  have key : ∀ p : Int, (p = 0 ∨ p = 2 ∨ p = 3 ∨ p = 8 ∨ p = 11 ∨ p = 12 ∨ p = 14) → (stepW W D J S T m w ⟨p, s, f, sp, lk⟩ d).2.1.stk.length ≤ 1000 := by
    intro p hp
    rw [stepW_c hp]
    split
    · exact hs
    · have := endW_le (W := W) (T := T) (w := w) (x := ⟨p, s, (callS W D J S m f).2, sp, lk⟩) (d := d)
      simp only at this ⊢
      omega
  rcases pc_cases (x := ⟨p, s, f, sp, lk⟩) h0 h15 with e | e | e | e | e | e | e | e | e | e | e | e | e | e | e | e <;> (simp only at e; subst e)
  · exact key 0 (by omega)
  · rw [stepW_1]; exact hs
  · exact key 2 (by omega)
  · exact key 3 (by omega)
  · rw [stepW_4]; simp only; split <;> exact h3
  · rw [stepW_5]; exact hs
  · rw [stepW_6]; exact hs
  · rw [stepW_7]
    unfold lookW toW
    repeat' split
    all_goals exact hs
  · exact key 8 (by omega)
  · rw [stepW_9]
    simp only
    repeat' split
    all_goals first | exact hs | exact h4
  · rw [stepW_10]
    split
    · exact h4
    · exact hs
  · exact key 11 (by omega)
  · exact key 12 (by omega)
  · rw [stepW_13]; simp only; split <;> exact hs
  · exact key 14 (by omega)
  · rw [stepW_15]
    split
    · simp only; split <;> exact h4
    · exact hs
theorem kb_pvk (g : Nat) (w : World) (x : WkS) (sv : Value) : Kb g w (pvk w g x sv) :=
  ((((((((((((Kb.refl g w).set 0 _).set 1 _).set 2 _).set 3 _).set 4 _).set 5 _).set 6 _).set 7 _).set 8 _).set 9 _).set 10 _)
/-- Numbers that are read stay where a worker's box is turned. -/
theorem rd_pvk {b : Nat} {w : World} {A : Option Addr} {l : List Int} {x : WkS} {sv : Value} (h : Rd w A l) (hb : Wvb w b x sv) (hl : 10 < l.length) (y : WkS) (zv : Value) : Rd (pvk w b y zv) A l :=
  have q := kb_pvk b w y zv
  fin_rd (h.rx (g := w.heap.size) (Nat.le_refl _)) (show Kb b w.drew (pvk w b y zv) from ⟨⟨q.low.os, q.low.tape, q.low.output, q.low.size, q.low.block⟩, q.others⟩) hb hl
theorem Calls.of_args {P : Program} {f : FuncId} {a b : Array Value} {w : World} {Q : Ending → World → Prop} (e : a = b) (h : Calls P f b w Q) : Calls P f a w Q := by rw [e]; exact h
theorem sm_nil : Fo.Sm [] := ⟨by decide, fun _ h => by cases h⟩
theorem aw_step : ∀ k : Nat, k < 7 → workS 1 1 1 0 [] (awM k) 0 (awX k) 0 = (awM (k + 1), awX (k + 1), [])
  | 0, _ => by kernel_rfl
  | 1, _ => by kernel_rfl
  | 2, _ => by kernel_rfl
  | 3, _ => by kernel_rfl
  | 4, _ => by kernel_rfl
  | 5, _ => by kernel_rfl
  | 6, _ => by kernel_rfl
  | _ + 7, h => absurd h (by omega)
theorem aw_ok (k : Nat) : (awM k).length = 12 ∧ UM (awM k) ∧ UF (awX k).f ∧ (awX k).stk = [] ∧ (awX k).spins = 0 ∧ (awX k).look = 0 := by
  have h : (awM k).length = 12 ∧ (awM k).all (fun u => decide (0 ≤ u) && decide (u < 18446744073709551616)) = true := by
    unfold awM; split <;> exact ⟨rfl, by decide⟩
  refine ⟨h.1, fun u hu => ?_, ?_⟩
  · have := List.all_eq_true.1 h.2 u hu
    simp only [Bool.and_eq_true, decide_eq_true_eq] at this
    unfold U; omega
  · unfold awX
    split <;> exact ⟨⟨by unfold U; decide, by unfold U; decide, by unfold U; decide⟩, rfl, rfl, rfl⟩
set_option maxHeartbeats 8000000 in
theorem wawake_any (w : World) : Tells 8 #[] w (.bool true) := by
  have Z0 := Lib.hid (bel_alloc w (.cells #[.int .i64 1, .int .i64 1, .int .i64 1, .int .i64 0] 23))
  have B0 := Lib.hid (Bx.mk w 1 1 1 0 23)
  go_enter Tryz.func8, Tryz.ntmps8
  go_wp2_with fail
  refine (new_any 1 1 1 0 _).mono ?_
  rintro _ w1 ⟨A, c, rfl, hr, z1⟩
  have HR := Lib.hid (show Rd w1 A (awM 0) from hr)
  have B1 := Lib.hid (B0.out.below z1)
  have Z1 := Lib.hid (Z0.out.trans (z1.mono (by simp)))
  clear hr z1
  go_wp2_with fail
  refine (wnew_any 0 _).mono ?_
  rintro _ w2 ⟨rfl, z2⟩
  have HR2 := Lib.hid (HR.out.below z2)
  have B2 := Lib.hid (B1.out.below z2)
  have Z2 := Lib.hid (Z1.out.trans (z2.mono Z1.out.size))
  clear z2
  go_upto_region 4 with fail
  have BV := Lib.hid (show Wvb (w2.alloc (.cells #[.int .i64 0, .slice none 0 0, .int .i64 (fbg 1 0 0).op, .int .i64 (fbg 1 0 0).pc, .int .i64 (fbg 1 0 0).who, .int .u64 (fbg 1 0 0).val, .int .u64 (fbg 1 0 0).x, .int .u64 (fbg 1 0 0).y, .int .i64 (fbg 1 0 0).res, .int .i64 0, .int .i64 0] 32)) w2.heap.size (awX 0) (.slice none 0 0) from Wvb.new w2 ⟨0, [], fbg 1 0 0, 0, 0⟩ (.slice none 0 0))
  have BC := Lib.hid (B2.out.below (bel_alloc w2 (.cells #[.int .i64 0, .slice none 0 0, .int .i64 (fbg 1 0 0).op, .int .i64 (fbg 1 0 0).pc, .int .i64 (fbg 1 0 0).who, .int .u64 (fbg 1 0 0).val, .int .u64 (fbg 1 0 0).x, .int .u64 (fbg 1 0 0).y, .int .i64 (fbg 1 0 0).res, .int .i64 0, .int .i64 0] 32)))
  have HR3 := Lib.hid (HR2.out.below (bel_alloc w2 (.cells #[.int .i64 0, .slice none 0 0, .int .i64 (fbg 1 0 0).op, .int .i64 (fbg 1 0 0).pc, .int .i64 (fbg 1 0 0).who, .int .u64 (fbg 1 0 0).val, .int .u64 (fbg 1 0 0).x, .int .u64 (fbg 1 0 0).y, .int .i64 (fbg 1 0 0).res, .int .i64 0, .int .i64 0] 32)))
  have ZC := Lib.hid (Z2.out.trans ((bel_alloc w2 (.cells #[.int .i64 0, .slice none 0 0, .int .i64 (fbg 1 0 0).op, .int .i64 (fbg 1 0 0).pc, .int .i64 (fbg 1 0 0).who, .int .u64 (fbg 1 0 0).val, .int .u64 (fbg 1 0 0).x, .int .u64 (fbg 1 0 0).y, .int .i64 (fbg 1 0 0).res, .int .i64 0, .int .i64 0] 32)).mono Z2.out.size))
  have hne : w.heap.size < w2.heap.size := B2.out.1
  generalize w2.alloc (.cells #[.int .i64 0, .slice none 0 0, .int .i64 (fbg 1 0 0).op, .int .i64 (fbg 1 0 0).pc, .int .i64 (fbg 1 0 0).who, .int .u64 (fbg 1 0 0).val, .int .u64 (fbg 1 0 0).x, .int .u64 (fbg 1 0 0).y, .int .i64 (fbg 1 0 0).res, .int .i64 0, .int .i64 0] 32) = w3 at *
  obtain ⟨gx, hgx⟩ : ∃ gx, w2.heap.size = gx := ⟨_, rfl⟩
  have HGX := Lib.hid (show w.heap.size < gx by omega)
  rw [hgx] at BV ⊢
  clear hgx hne HR HR2 B0 B1 B2 Z0 Z1 Z2
  go_wp2
  go_loopw [2, 4] (fun m i wr => ∃ (k : Nat) (A : Option Addr) (c : Nat) (SA : Option Addr) (cs : Nat), m = .slice A 12 c ∧ i = .int .i64 k ∧ k ≤ 7 ∧ Hid (Rd wr A (awM k)) ∧ Hid (Wvb wr gx (awX k) (.slice SA 0 cs)) ∧ Hid (Bx wr w.heap.size 1 1 1 0) ∧ Hid (Below w.heap.size w wr)) (fun _ i _ => 7 - (intOf i).toNat)
  case atStart => exact ⟨0, A, c, none, 0, rfl, rfl, by omega, HR3, BV, BC, ZC⟩
  case round =>
    obtain ⟨k, A', c', SA, cs, rfl, rfl, hk, HM, HV, HC, HZ⟩ := hrel
    clear HR3 BV BC ZC
    obtain ⟨_, e0, e1, e2, e3⟩ := HC.out
    obtain ⟨b0, b1, b2, b3, b4, b5, b6, b7, b8, b9, b10⟩ := HV.out.cells
    have fz := HV.out.free
    have AO := Lib.hid (aw_ok k)
    have AO1 := Lib.hid (aw_ok (k + 1))
    by_cases hlt : k < 7
    · have d1 : decide ((k : Int) < 7) = true := decide_eq_true (by omega)
      have HS := Lib.hid (aw_step k hlt)
      go_wp2_with fail
      refine (Calls.of_args (show _ = #[cf 1 1 1 0, .slice none ([] : List Fo.Tsk).length 0, .slice A' 12 c', .int .i64 0, wv (awX k) (.slice SA (awX k).stk.length cs), .int .u64 0] by rw [AO.out.2.2.2.1]; rfl) (wstep_n (T := []) (x := awX k) (fun hp => by simp at hp) HM.out (by rw [AO.out.2.2.2.1]; exact Fo.Ir.nil _ _ _) sm_nil (by rw [AO.out.1, AO.out.2.2.2.1]; decide) AO.out.2.1 AO.out.2.2.1 (by rw [AO.out.2.2.2.2.1]; unfold I; decide) (by rw [AO.out.2.2.2.2.2]; unfold I; decide) (by unfold U; decide) (by unfold I; decide) AO.out.1 HS.out)).mono ?_
      rintro _ w5 ⟨A5, c5, SA5, cs5, E5, ce5, rfl, h5, _, _, z5⟩
      rw [AO1.out.2.2.2.1]
      have HM5 := Lib.hid h5
      have HV5 := Lib.hid (HV.out.after z5)
      have HC5 := Lib.hid (HC.out.below z5)
      have HZ5 := Lib.hid (HZ.out.trans (z5.mono HZ.out.size))
      clear h5 z5 e0 e1 e2 e3 b0 b1 b2 b3 b4 b5 b6 b7 b8 b9 b10 fz
      obtain ⟨b0, b1, b2, b3, b4, b5, b6, b7, b8, b9, b10⟩ := HV5.out.cells
      have fz := HV5.out.free
      have hgl := HV5.out.lt
      go_wp2
      go_roundw
      case rel => exact ⟨k + 1, A5, c5, SA5, cs5, rfl, by go_num, by omega, Lib.hid ((rd_pvk HM5.out HV5.out (by rw [AO1.out.1]; decide) (awX (k + 1)) (.slice SA5 0 cs5)).below (bel_alloc _ _)), Lib.hid ((HV5.out.pvk (awX (k + 1)) (.slice SA5 0 cs5)).alloc _), Lib.hid ((HC5.out.kb (kb_pvk gx w5 (awX (k + 1)) (.slice SA5 0 cs5)) (by have := HGX.out; omega)).below (bel_alloc _ _)), Lib.hid ((below_pvk HZ5.out (Nat.le_of_lt HGX.out) (awX (k + 1)) (.slice SA5 0 cs5)).trans ((bel_alloc _ _).mono (below_pvk HZ5.out (Nat.le_of_lt HGX.out) (awX (k + 1)) (.slice SA5 0 cs5)).size))⟩
      case measure => simp [intOf]; omega
    · obtain rfl : k = 7 := by omega
      have d1 : decide (((7 : Nat) : Int) < 7) = false := decide_eq_false (by omega)
      have HV7 := Lib.hid (show Wvb wr gx ⟨5, [], ⟨5, 0, 0, 0, 0, 0, 0⟩, 0, 0⟩ (.slice SA 0 cs) from HV.out)
      clear b0 b1 b2 b3 b4 b5 b6 b7 b8 b9 b10 fz HV AO AO1
      obtain ⟨b0, b1, b2, b3, b4, b5, b6, b7, b8, b9, b10⟩ := HV7.out.cells
      have fz := HV7.out.free
      simp only at b0 b1 b2 b3 b4 b5 b6 b7 b8 b9 b10
      go_wp2_with fail
      refine (ret_of (load_any A' 12 c' (awM 7) 1 _ HM.out rfl (by omega)) (v' := .int .u64 1) rfl).mono ?_
      rintro _ w5 ⟨rfl, z5⟩
      have HM5 := Lib.hid (HM.out.below z5)
      have HV5 := Lib.hid (HV7.out.after z5)
      have HC5 := Lib.hid (HC.out.below z5)
      have HZ5 := Lib.hid (HZ.out.trans (z5.mono HZ.out.size))
      clear z5 e0 e1 e2 e3 b0 b1 b2 b3 b4 b5 b6 b7 b8 b9 b10 fz
      obtain ⟨_, e0, e1, e2, e3⟩ := HC5.out
      obtain ⟨b0, b1, b2, b3, b4, b5, b6, b7, b8, b9, b10⟩ := HV5.out.cells
      simp only at b0 b1 b2 b3 b4 b5 b6 b7 b8 b9 b10
      go_wp2_with fail
      refine (Tells.of (wmay_any (n₀ := 0) (T := []) (AT := none) (ct := 0) (x := ⟨5, [], ⟨5, 0, 0, 0, 0, 0, 0⟩, 0, 0⟩) (m := awM 7) (SA := SA) (cs := cs) (c := c') (n := 12) (W := 1) (D := 1) (J := 1) (S := 0) (me := 0) (fun hp => by simp at hp) (Fo.Ir.nil _ _ _) (Nat.zero_le _) sm_nil (by decide) rfl) (v' := .bool true) (by rw [show mayW 1 1 1 0 [] (awM 7) 0 ⟨5, [], ⟨5, 0, 0, 0, 0, 0, 0⟩, 0, 0⟩ = true by kernel_rfl])).mono ?_
      rintro _ w6 ⟨rfl, z6⟩
      have HV6 := Lib.hid (HV5.out.after z6)
      have HZ6 := Lib.hid (HZ5.out.trans (z6.mono HZ5.out.size))
      clear z6 e0 e1 e2 e3 b0 b1 b2 b3 b4 b5 b6 b7 b8 b9 b10
      obtain ⟨b0, b1, b2, b3, b4, b5, b6, b7, b8, b9, b10⟩ := HV6.out.cells
      simp only at b0 b1 b2 b3 b4 b5 b6 b7 b8 b9 b10
      go_wp2_with fail
      refine (Tells.of (wseeks_any ⟨5, [], ⟨5, 0, 0, 0, 0, 0, 0⟩, 0, 0⟩ (.slice SA 0 cs) _) (v' := .bool true) rfl).mono ?_
      rintro _ w7 ⟨rfl, z7⟩
      have HV7 := Lib.hid (HV6.out.after z7)
      have HZ7 := Lib.hid (HZ6.out.trans (z7.mono HZ6.out.size))
      clear z7 b0 b1 b2 b3 b4 b5 b6 b7 b8 b9 b10
      obtain ⟨b0, b1, b2, b3, b4, b5, b6, b7, b8, b9, b10⟩ := HV7.out.cells
      simp only at b0 b1 b2 b3 b4 b5 b6 b7 b8 b9 b10
      go_wp2_with fail
      refine (Tells.of (wparked_any ⟨5, [], ⟨5, 0, 0, 0, 0, 0, 0⟩, 0, 0⟩ (.slice SA 0 cs) _) (v' := .bool false) rfl).mono ?_
      rintro _ w8 ⟨rfl, z8⟩
      have HV8 := Lib.hid (HV7.out.after z8)
      have HZ8 := Lib.hid (HZ7.out.trans (z8.mono HZ7.out.size))
      clear z8 b0 b1 b2 b3 b4 b5 b6 b7 b8 b9 b10
      obtain ⟨b0, b1, b2, b3, b4, b5, b6, b7, b8, b9, b10⟩ := HV8.out.cells
      simp only at b0 b1 b2 b3 b4 b5 b6 b7 b8 b9 b10
      go_wp2_with fail
      refine (wsame_eq (S1 := SA) (S2 := SA) (c1 := cs) (c2 := cs) (x := ⟨5, [], ⟨5, 0, 0, 0, 0, 0, 0⟩, 0, 0⟩) (Fo.Ir.nil _ _ _) (Fo.Ir.nil _ _ _) (by decide)).mono ?_
      rintro _ w9 ⟨rfl, z9⟩
      have HZ9 := Lib.hid (HZ8.out.trans (z9.mono HZ8.out.size))
      clear z9 b0 b1 b2 b3 b4 b5 b6 b7 b8 b9 b10
      go_wp2
      go_ret
      exact ⟨rfl, HZ9.out⟩
end Go.Proofs.YtlpkccpijloidaaGreat
