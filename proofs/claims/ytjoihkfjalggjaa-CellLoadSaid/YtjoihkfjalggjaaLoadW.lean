/- The walk of CellLoad: what was stored is loaded, for any cells. -/
import Derived.Test.YtjoihkfjalggjaaCellF
namespace Go.Proofs.Ytjoihkfjalggjaa
open Go.RowKit Go.Deep
set_option maxHeartbeats 1000000 in
theorem cellLoad_walk (A : Option Addr) (n c : Nat) (l : List Int) (i v u : Int) (w : World) (h : Rd w A l) (hn : l.length = n) :
    Calls Try.prog 7 #[.slice A n c, .int .i64 i, .int .u64 v, .int .u64 u] w fun e w' => e = .returned (.bool true) ∧ Below w.heap.size w w' := by
  have HR := Lib.hid h
  have HE := Lib.hid hn
  clear h hn
  by_cases hbig : n ≤ 500
  · by_cases hin : 0 ≤ i ∧ i < n
    · obtain ⟨k, rfl⟩ := Int.eq_ofNat_of_zero_le hin.1
      have hk : k < n := by omega
      clear hin
      obtain ⟨ad, rfl, hal, hac⟩ := HR.out (by rw [HE.out]; omega)
      have hx := hac k _ (List.getElem?_eq_getElem (by rw [HE.out]; exact hk))
      have hat : at0 l k = l[k]'(by rw [HE.out]; exact hk) := by rw [at0_in (by omega) (by rw [HE.out]; omega)]; simp
      rw [← hat] at hx
      obtain ⟨x, hat'⟩ : ∃ x, at0 l k = x := ⟨_, rfl⟩
      rw [hat'] at hx
      have HX := Lib.hid hx
      have HT := Lib.hid hat'
      clear hac hx hat hat'
      go_enter Try.func7, Try.ntmps7
      go_wp2_with fail
      refine (awake_any _).mono ?_
      rintro e w1 ⟨rfl, z1⟩
      have HZ := Lib.hid z1
      replace HR := Lib.hid (HR.out.below z1)
      clear z1
      go_wp2_with fail
      refine (store_any _ _ _ l _ _ _ HR.out HE.out hbig).mono ?_
      rintro e w2 ⟨g2, rfl, b2, z2⟩
      replace HZ := Lib.hid (HZ.out.trans (z2.mono HZ.out.size))
      replace HR := Lib.hid (HR.out.below z2)
      have HB2 := Lib.hid b2.rd
      clear z2 b2
      go_wp2_with fail
      refine (RetM.of (store_any _ _ _ _ _ _ _ HB2.out (by rw [len_put, HE.out]) hbig) (put_put _ _ _ _)).mono ?_
      rintro e w3 ⟨g3, rfl, b3, z3⟩
      replace HZ := Lib.hid (HZ.out.trans (z3.mono HZ.out.size))
      replace HR := Lib.hid (HR.out.below z3)
      have HB3 := Lib.hid b3.rd
      clear z3 b3 HB2
      go_wp2_with fail
      have hc3 : w3.cell? (ad.add k) = some (.int .u64 x) := (HZ.out.cell (by rw [block_add]; exact hal)).trans HX.out
      have hb3 := Below.refl w3.heap.size w3
      have C1 : ∀ W, (W.cell? (ad.add k) = some (.int .u64 x) ∧ Below w3.heap.size w3 W) → Calls Try.prog 18 #[.slice (some ⟨g3, 0, none⟩) n n, .int .i64 k] W (fun e w' => e = .returned (.int .u64 u) ∧ Below W.heap.size W w') := fun W hW =>
        ret_of (load_any _ n n (put l k u) _ _ (HB3.out.below hW.2) (by rw [len_put, HE.out]) hbig) (by rw [at0_put u (by omega) (by rw [HE.out]; omega)])
      have C2 : ∀ W, (W.cell? (ad.add k) = some (.int .u64 x) ∧ Below w3.heap.size w3 W) → Calls Try.prog 18 #[.slice (some ad) n c, .int .i64 k] W (fun e w' => e = .returned (.int .u64 x) ∧ Below W.heap.size W w') := fun W hW =>
        ret_of (load_any _ n c l _ _ (HR.out.below hW.2) HE.out hbig) (by rw [HT.out])
      have C3 : ∀ W, (W.cell? (ad.add k) = some (.int .u64 x) ∧ Below w3.heap.size w3 W) → Calls Try.prog 16 #[.slice (some ad) n c, .int .i64 k, .int .u64 u] W (RetM W n (put l k u)) := fun W hW =>
        store_any _ n c l _ _ _ (HR.out.below hW.2) HE.out hbig
      have C4 : ∀ W g, Rd W (some ⟨g, 0, none⟩) (put l k u) → (W.cell? (ad.add k) = some (.int .u64 x) ∧ Below w3.heap.size w3 W) → Calls Try.prog 20 #[.slice (some ⟨g3, 0, none⟩) n n, .slice (some ⟨g, 0, none⟩) n n] W (fun e w' => e = .returned (.bool true) ∧ Below W.heap.size W w') := fun W g hr hW =>
        ret_of (same_any _ _ n n n n _ _ _ (HB3.out.below hW.2) hr (by rw [len_put, HE.out]) (by rw [len_put, HE.out]) (by omega)) (by rw [decide_eq_true rfl])
      have HC1 := Lib.hid C1
      have HC2 := Lib.hid C2
      have HC3 := Lib.hid C3
      have HC4 := Lib.hid C4
      clear C1 C2 C3 C4
      go_region_held3 (fun w' => w'.cell? (ad.add k) = some (.int .u64 x) ∧ Below w3.heap.size w3 w') (first | exact keep_drew (by assumption) (by assumption) | exact keep_call (by assumption) (by assumption))
        (first
          | (go_at_call 18; ((with_reducible refine (HC1.out _ (by assumption)).mono ?_); rintro e w' ⟨rfl, hb⟩))
          | (go_at_call 18; ((with_reducible refine (HC2.out _ (by assumption)).mono ?_); rintro e w' ⟨rfl, hb⟩))
          | (go_at_call 16; ((with_reducible refine (HC3.out _ (by assumption)).mono ?_); rintro e w' ⟨g4, rfl, b4, hb⟩))
          | (go_at_call 20; ((with_reducible refine (HC4.out _ _ (Bk.rd (by assumption)) (by assumption)).mono ?_); rintro e w' ⟨rfl, hb⟩)))
      rename_i hS
      have HS := Lib.hid hS.2
      clear hS hc3 hb3
      go_wp2
      go_ret
      exact ⟨rfl, HZ.out.trans (HS.out.mono HZ.out.size)⟩
    · have hout : i < 0 ∨ (n : Int) ≤ i := by omega
      have E0 := Lib.hid (at0_out (l := l) (i := i) (by rw [HE.out]; exact hout))
      have E1 := Lib.hid (fun v => put_out (l := l) (i := i) v (by rw [HE.out]; exact hout))
      clear hin
      rcases hout with hi | hi
      all_goals
        go_enter Try.func7, Try.ntmps7
        go_wp2_with fail
        refine (awake_any _).mono ?_
        rintro e w1 ⟨rfl, z1⟩
        have HZ := Lib.hid z1
        replace HR := Lib.hid (HR.out.below z1)
        clear z1
        go_wp2_with fail
        refine (RetM.of (store_any _ _ _ l _ _ _ HR.out HE.out hbig) (E1.out _)).mono ?_
        rintro e w2 ⟨g2, rfl, b2, z2⟩
        replace HZ := Lib.hid (HZ.out.trans (z2.mono HZ.out.size))
        replace HR := Lib.hid (HR.out.below z2)
        have HB2 := Lib.hid b2.rd
        clear z2 b2
        go_wp2_with fail
        refine (RetM.of (store_any _ _ _ l _ _ _ HB2.out HE.out hbig) (E1.out _)).mono ?_
        rintro e w3 ⟨g3, rfl, b3, z3⟩
        replace HZ := Lib.hid (HZ.out.trans (z3.mono HZ.out.size))
        replace HR := Lib.hid (HR.out.below z3)
        have HB3 := Lib.hid b3.rd
        clear z3 b3 HB2
        go_wp2_with fail
        refine (ret_of (load_any _ _ _ l _ _ HR.out HE.out hbig) (v' := .int .u64 0) (by rw [E0.out])).mono ?_
        rintro e w4 ⟨rfl, z4⟩
        replace HZ := Lib.hid (HZ.out.trans (z4.mono HZ.out.size))
        replace HR := Lib.hid (HR.out.below z4)
        replace HB3 := Lib.hid (HB3.out.below z4)
        clear z4
        go_wp2_with fail
        refine (ret_of (same_any _ _ _ _ _ _ l l _ HB3.out HR.out HE.out HE.out (by omega)) (v' := .bool true) (by rw [decide_eq_true rfl])).mono ?_
        rintro e w5 ⟨rfl, z5⟩
        replace HZ := Lib.hid (HZ.out.trans (z5.mono HZ.out.size))
        clear z5
        go_wp2
        go_ret
        exact ⟨rfl, HZ.out⟩
  · go_enter Try.func7, Try.ntmps7
    go_wp2_with fail
    refine (awake_any _).mono ?_
    rintro e w1' ⟨rfl, z1⟩
    go_wp2
    go_ret
    exact ⟨rfl, z1⟩
end Go.Proofs.Ytjoihkfjalggjaa
