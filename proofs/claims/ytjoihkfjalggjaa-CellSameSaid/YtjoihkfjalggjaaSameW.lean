/- The walk of CellSame: cells are the same as themselves, and with one number more they are not. -/
import Derived.Test.YtjoihkfjalggjaaCellG
namespace Go.Proofs.Ytjoihkfjalggjaa
open Go.RowKit Go.Deep
set_option maxHeartbeats 1000000 in
theorem cellSame_walk (A : Option Addr) (n c : Nat) (l : List Int) (i v : Int) (w : World) (h : Rd w A l) (hn : l.length = n) :
    Calls Try.prog 9 #[.slice A n c, .int .i64 i, .int .u64 v] w fun e w' => e = .returned (.bool true) ∧ Below w.heap.size w w' := by
  have HR := Lib.hid h
  have HE := Lib.hid hn
  clear h hn
  by_cases hbig : n ≤ 500
  · by_cases hin : 0 ≤ i ∧ i < n
    · obtain ⟨h0, h1⟩ := hin
      have HL := Lib.hid (show i < (l.length : Int) by rw [HE.out]; exact h1)
      obtain ⟨a, ha⟩ : ∃ a, at0 l i = a := ⟨_, rfl⟩
      have HA := Lib.hid ha
      have HP := Lib.hid (show put l i a = l by rw [← ha, put_at0])
      obtain ⟨q, hq⟩ : ∃ q, (v == a) = q := ⟨_, rfl⟩
      have HQ := Lib.hid (show decide (put l i v = l) = q by rw [← hq, Bool.eq_iff_iff, decide_eq_true_iff, beq_iff_eq, put_ne h0 HL.out, ha])
      clear ha
      go_enter Try.func9, Try.ntmps9
      go_wp2_with fail
      refine (awake_any _).mono ?_
      rintro e w1 ⟨rfl, z1⟩
      have HZ := Lib.hid z1
      replace HR := Lib.hid (HR.out.below z1)
      clear z1
      go_wp2_with fail
      refine (store_any _ _ _ l _ _ _ HR.out HE.out hbig).mono ?_
      rintro e w2 ⟨g2, rfl, b2, z2⟩
      replace HZ := Lib.hid (HZ.out.trans (z2.mono HZ.out.size))
      replace HR := Lib.hid (HR.out.below z2)
      have RS := Lib.hid b2.rd
      clear z2 b2
      go_wp2_with fail
      refine (ret_of (same_any _ _ _ _ _ _ _ _ _ HR.out HR.out HE.out HE.out (by omega)) (v' := .bool true) (by rw [decide_eq_true rfl])).mono ?_
      rintro e w3 ⟨rfl, z3⟩
      replace HZ := Lib.hid (HZ.out.trans (z3.mono HZ.out.size))
      replace HR := Lib.hid (HR.out.below z3)
      replace RS := Lib.hid (RS.out.below z3)
      clear z3
      go_wp2_with fail
      refine (ret_of (load_any _ _ _ l _ _ HR.out HE.out hbig) (v' := .int .u64 a) (by rw [HA.out])).mono ?_
      rintro e w4 ⟨rfl, z4⟩
      replace HZ := Lib.hid (HZ.out.trans (z4.mono HZ.out.size))
      replace HR := Lib.hid (HR.out.below z4)
      replace RS := Lib.hid (RS.out.below z4)
      clear z4
      go_wp2_with fail
      refine (RetM.of (store_any _ _ _ l _ _ _ HR.out HE.out hbig) HP.out).mono ?_
      rintro e w5 ⟨g5, rfl, b5, z5⟩
      replace HZ := Lib.hid (HZ.out.trans (z5.mono HZ.out.size))
      replace HR := Lib.hid (HR.out.below z5)
      replace RS := Lib.hid (RS.out.below z5)
      have RT := Lib.hid b5.rd
      clear z5 b5
      go_wp2_with fail
      refine (ret_of (same_any _ _ _ _ _ _ _ _ _ RT.out HR.out HE.out HE.out (by omega)) (v' := .bool true) (by rw [decide_eq_true rfl])).mono ?_
      rintro e w6 ⟨rfl, z6⟩
      replace HZ := Lib.hid (HZ.out.trans (z6.mono HZ.out.size))
      replace HR := Lib.hid (HR.out.below z6)
      replace RS := Lib.hid (RS.out.below z6)
      replace RT := Lib.hid (RT.out.below z6)
      clear z6
      clear RT
      go_wp2_with fail
      refine (ret_of (same_any _ _ _ _ _ _ _ _ _ RS.out HR.out (by rw [len_put, HE.out]) HE.out (by omega)) (v' := .bool q) (by rw [HQ.out])).mono ?_
      rintro e w7 ⟨rfl, z7⟩
      replace HZ := Lib.hid (HZ.out.trans (z7.mono HZ.out.size))
      replace HR := Lib.hid (HR.out.below z7)
      replace RS := Lib.hid (RS.out.below z7)
      clear z7
      clear RS
      go_wp2_with fail
      refine (ret_of (load_any _ _ _ l _ _ HR.out HE.out hbig) (v' := .int .u64 a) (by rw [HA.out])).mono ?_
      rintro e w8 ⟨rfl, z8⟩
      replace HZ := Lib.hid (HZ.out.trans (z8.mono HZ.out.size))
      replace HR := Lib.hid (HR.out.below z8)
      clear z8
      obtain ⟨A9, c9, w9, run9, own9, y9⟩ := run_app (show Own w8 w8.heap.size none 0 0 [] from World.ownsRow_nil _ _ _ _) c HR.out HE.out (by omega) (Nat.le_refl _)
      simp only [Nat.zero_add, List.nil_append] at run9 own9
      have own9b : Own (w9.alloc (.cells #[.int .u64 v] 24)) w8.heap.size A9 n c9 l := World.ownsRow.alloc own9 _
      have r9 : Rd (w9.alloc (.cells #[.int .u64 v] 24)) (some ⟨w9.heap.size, 0, none⟩) [v] := (show Bk (w9.alloc (.cells #[.int .u64 v] 24)) w9.heap.size [v] from heap_alloc_new _ _).rd
      have y9b : Below w8.heap.size w8 (w9.alloc (.cells #[.int .u64 v] 24)) := y9.alloc y9.size _
      obtain ⟨A10, c10, w10, run10, own10, y10⟩ := run_app (m := 1) own9b 1 r9 rfl (by omega) y9b.size
      have RUN9 := Lib.hid run9
      have RUN10 := Lib.hid run10
      have RO := Lib.hid own10.rd
      replace HR := Lib.hid (HR.out.below (y9b.trans y10))
      have y11 := y9b.trans y10
      replace HZ := Lib.hid (HZ.out.trans (y11.mono HZ.out.size))
      clear run9 own9 own9b r9 y9 y9b run10 own10 y10 y11
      go_wp2_with (first | (at_builtin; (with_reducible refine wpList_append_run RUN9.out ?_ ?_ ?_ ?_); exact ⟨_, _, rfl, rfl, rfl⟩; rfl; rfl) | (at_builtin; (with_reducible refine wpList_append_run RUN10.out ?_ ?_ ?_ ?_); exact ⟨_, _, rfl, rfl, rfl⟩; rfl; rfl))
      refine (ret_of (same_any _ _ _ _ _ _ _ _ _ RO.out HR.out (by simp [HE.out]) HE.out (by omega)) (v' := .bool false) (by rw [decide_eq_false (by intro e; have := congrArg List.length e; simp at this)])).mono ?_
      rintro e w11 ⟨rfl, z11⟩
      replace HZ := Lib.hid (HZ.out.trans (z11.mono HZ.out.size))
      replace HR := Lib.hid (HR.out.below z11)
      replace RO := Lib.hid (RO.out.below z11)
      clear z11
      go_wp2
      go_ret
      exact ⟨rfl, HZ.out⟩
    · have hout : i < 0 ∨ (n : Int) ≤ i := by omega
      have HO := Lib.hid (fun x => put_out (l := l) (i := i) x (by rw [HE.out]; exact hout))
      clear hin
      rcases hout with hi | hi
      all_goals
        go_enter Try.func9, Try.ntmps9
        go_wp2_with fail
        refine (awake_any _).mono ?_
        rintro e w1 ⟨rfl, z1⟩
        have HZ := Lib.hid z1
        replace HR := Lib.hid (HR.out.below z1)
        clear z1
        go_wp2_with fail
        refine (RetM.of (store_any _ _ _ l _ _ _ HR.out HE.out hbig) (HO.out _)).mono ?_
        rintro e w2 ⟨g2, rfl, b2, z2⟩
        replace HZ := Lib.hid (HZ.out.trans (z2.mono HZ.out.size))
        replace HR := Lib.hid (HR.out.below z2)
        have RS := Lib.hid b2.rd
        clear z2 b2
        go_wp2_with fail
        refine (ret_of (same_any _ _ _ _ _ _ _ _ _ HR.out HR.out HE.out HE.out (by omega)) (v' := .bool true) (by rw [decide_eq_true rfl])).mono ?_
        rintro e w3 ⟨rfl, z3⟩
        replace HZ := Lib.hid (HZ.out.trans (z3.mono HZ.out.size))
        replace HR := Lib.hid (HR.out.below z3)
        replace RS := Lib.hid (RS.out.below z3)
        clear z3
        go_wp2_with fail
        refine (load_any _ _ _ l _ _ HR.out HE.out hbig).mono ?_
        rintro e w4 ⟨rfl, z4⟩
        replace HZ := Lib.hid (HZ.out.trans (z4.mono HZ.out.size))
        replace HR := Lib.hid (HR.out.below z4)
        replace RS := Lib.hid (RS.out.below z4)
        clear z4
        go_wp2_with fail
        refine (RetM.of (store_any _ _ _ l _ _ _ HR.out HE.out hbig) (HO.out _)).mono ?_
        rintro e w5 ⟨g5, rfl, b5, z5⟩
        replace HZ := Lib.hid (HZ.out.trans (z5.mono HZ.out.size))
        replace HR := Lib.hid (HR.out.below z5)
        replace RS := Lib.hid (RS.out.below z5)
        have RT := Lib.hid b5.rd
        clear z5 b5
        go_wp2_with fail
        refine (ret_of (same_any _ _ _ _ _ _ _ _ _ RT.out HR.out HE.out HE.out (by omega)) (v' := .bool true) (by rw [decide_eq_true rfl])).mono ?_
        rintro e w6 ⟨rfl, z6⟩
        replace HZ := Lib.hid (HZ.out.trans (z6.mono HZ.out.size))
        replace HR := Lib.hid (HR.out.below z6)
        replace RS := Lib.hid (RS.out.below z6)
        replace RT := Lib.hid (RT.out.below z6)
        clear z6
        clear RT
        go_wp2_with fail
        refine (ret_of (same_any _ _ _ _ _ _ _ _ _ RS.out HR.out HE.out HE.out (by omega)) (v' := .bool true) (by rw [decide_eq_true rfl])).mono ?_
        rintro e w7 ⟨rfl, z7⟩
        replace HZ := Lib.hid (HZ.out.trans (z7.mono HZ.out.size))
        replace HR := Lib.hid (HR.out.below z7)
        replace RS := Lib.hid (RS.out.below z7)
        clear z7
        clear RS
        obtain ⟨A9, c9, w9, run9, own9, y9⟩ := run_app (show Own w7 w7.heap.size none 0 0 [] from World.ownsRow_nil _ _ _ _) c HR.out HE.out (by omega) (Nat.le_refl _)
        simp only [Nat.zero_add, List.nil_append] at run9 own9
        have own9b : Own (w9.alloc (.cells #[.int .u64 v] 24)) w7.heap.size A9 n c9 l := World.ownsRow.alloc own9 _
        have r9 : Rd (w9.alloc (.cells #[.int .u64 v] 24)) (some ⟨w9.heap.size, 0, none⟩) [v] := (show Bk (w9.alloc (.cells #[.int .u64 v] 24)) w9.heap.size [v] from heap_alloc_new _ _).rd
        have y9b : Below w7.heap.size w7 (w9.alloc (.cells #[.int .u64 v] 24)) := y9.alloc y9.size _
        obtain ⟨A10, c10, w10, run10, own10, y10⟩ := run_app (m := 1) own9b 1 r9 rfl (by omega) y9b.size
        have RUN9 := Lib.hid run9
        have RUN10 := Lib.hid run10
        have RO := Lib.hid own10.rd
        replace HR := Lib.hid (HR.out.below (y9b.trans y10))
        have y11 := y9b.trans y10
        replace HZ := Lib.hid (HZ.out.trans (y11.mono HZ.out.size))
        clear run9 own9 own9b r9 y9 y9b run10 own10 y10 y11
        go_wp2_with (first | (at_builtin; (with_reducible refine wpList_append_run RUN9.out ?_ ?_ ?_ ?_); exact ⟨_, _, rfl, rfl, rfl⟩; rfl; rfl) | (at_builtin; (with_reducible refine wpList_append_run RUN10.out ?_ ?_ ?_ ?_); exact ⟨_, _, rfl, rfl, rfl⟩; rfl; rfl))
        refine (ret_of (same_any _ _ _ _ _ _ _ _ _ RO.out HR.out (by simp [HE.out]) HE.out (by omega)) (v' := .bool false) (by rw [decide_eq_false (by intro e; have := congrArg List.length e; simp at this)])).mono ?_
        rintro e w11 ⟨rfl, z11⟩
        replace HZ := Lib.hid (HZ.out.trans (z11.mono HZ.out.size))
        replace HR := Lib.hid (HR.out.below z11)
        replace RO := Lib.hid (RO.out.below z11)
        clear z11
        go_wp2
        go_ret
        exact ⟨rfl, HZ.out⟩
  · go_enter Try.func9, Try.ntmps9
    go_wp2_with fail
    refine (awake_any _).mono ?_
    rintro e w1 ⟨rfl, z1⟩
    have HZ := Lib.hid z1
    clear z1
    go_wp2
    go_ret
    exact ⟨rfl, HZ.out⟩
end Go.Proofs.Ytjoihkfjalggjaa
