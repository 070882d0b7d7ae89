/- The walk of PushCells. -/
import Derived.Test.YtjbmldadlpbiaaaPuK
import Derived.Test.YtjbmldadlpbiaaaFrQ
import Derived.Deep.QuietTactic
import Derived.BigQuiet
namespace Go.Proofs.Ytjbmldadlpbiaaa
open Go.RowKit Go.Deep
attribute [local go_sem ↓] eql_fr guard_fr
/-- Where the cells differ behind a step: at one place, or at none. -/
theorem cells_dif (W D J S : Int) (m : List Int) (f : Fr) : ∃ dif : Int, (∀ k : Nat, k < m.length → (¬ at0 (pushS W D J S m f).1 k = at0 m k ↔ (k : Int) = dif)) ∧ (dif = -1 ∨ (0 ≤ dif ∧ dif < m.length ∧ goes W D J S m f 0 4 = true ∧ 2 ≤ f.pc ∧ (dif = bg D J f.who + 1 ∨ dif = sI D J f.who f.x))) := by
  by_cases h : ∃ k : Nat, k < m.length ∧ ¬ at0 (pushS W D J S m f).1 k = at0 m k
  · obtain ⟨k, hk, hd⟩ := h
    obtain ⟨hg, hp, hc⟩ := pushS_cells hd
    refine ⟨(k : Int), fun i hi => ⟨fun hi2 => ?_, fun e => ?_⟩, .inr ⟨by omega, by omega, hg, hp, by omega⟩⟩
    · obtain ⟨_, _, hc2⟩ := pushS_cells hi2
      omega
    · have : i = k := by omega
      subst this; exact hd
  · refine ⟨-1, fun i hi => ⟨fun h2 => absurd ⟨i, hi, h2⟩ h, fun e => by omega⟩, .inl rfl⟩
/-- So many differences ahead of place j, and the last one. -/
def Dv (dif : Int) (j : Nat) (cn a : Int) : Prop := (0 ≤ dif ∧ dif < j ∧ cn = 1 ∧ a = dif) ∨ ((dif < 0 ∨ (j : Int) ≤ dif) ∧ cn = 0 ∧ a = -1)
theorem cells_big (W D J S : Int) (A : Option Addr) (n c : Nat) (f : Fr) (w : World) (hn : 500 < n) : Tells 5 #[cf W D J S, .slice A n c, fv f] w (.bool true) := by
  obtain ⟨BX, BF, Z0, hz⟩ := boxes2 w W D J S f
  obtain ⟨o, p, q, v, x, y, s⟩ := f
  have hd : decide ((500 : Int) < (n : Int)) = true := decide_eq_true (by omega)
  go_enter Try.func5, Try.ntmps5
  go_wp2_with fail
  change Calls _ _ _ (bxc w W D J S ⟨o, p, q, v, x, y, s⟩) _
  generalize bxc w W D J S ⟨o, p, q, v, x, y, s⟩ = w0 at BX BF Z0 hz ⊢
  refine (awake_any _).mono ?_
  rintro _ w1 ⟨rfl, z⟩
  have Z := Lib.hid (Z0.trans (z.mono (by omega)))
  clear z
  go_wp2
  go_ret
  exact ⟨rfl, Z.out⟩
set_option maxHeartbeats 1000000 in
theorem cells_main (W D J S : Int) (A : Option Addr) (n c : Nat) (m : List Int) (f : Fr) (w : World) (hm : Rd w A m) (hn : m.length = n) (hs : n ≤ 500) (hf : UF f) : Tells 5 #[cf W D J S, .slice A n c, fv f] w (.bool true) := by
  obtain ⟨BX0, BF0, Z0, hz⟩ := boxes2 w W D J S f
  have hlen2 := (pushS_len W D J S m f).trans hn
  obtain ⟨dif, hdif, hwhere⟩ := cells_dif W D J S m f
  rw [hn] at hdif hwhere
  have hstay : goes W D J S m f 0 4 = false → pushS W D J S m f = (m, f) := fun h => by unfold pushS; rw [h]; rfl
  obtain ⟨l', f', hP⟩ : ∃ l' f', pushS W D J S m f = (l', f') := ⟨_, _, rfl⟩
  rw [hP] at hlen2 hdif hstay
  simp only at hlen2 hdif
  obtain ⟨o, p, q, v, x, y, s⟩ := f
  simp only at hwhere
  have hd : decide ((500 : Int) < (n : Int)) = false := decide_eq_false (by omega)
  have HP := Lib.hid hP
  have HN := Lib.hid hn
  have HU := Lib.hid hf
  have HS := Lib.hid hs
  have HL2 := Lib.hid hlen2
  have HD := Lib.hid hdif
  have HW := Lib.hid hwhere
  have HST := Lib.hid hstay
  have LM0 := Lib.hid hm
  clear hP hn hf hlen2 hdif hwhere hstay hm
  go_enter Try.func5, Try.ntmps5
  go_wp2_with fail
  change Calls _ _ _ (bxc w W D J S ⟨o, p, q, v, x, y, s⟩) _
  generalize bxc w W D J S ⟨o, p, q, v, x, y, s⟩ = w0 at BX0 BF0 Z0 hz ⊢
  refine (awake_any _).mono ?_
  rintro _ w1 ⟨rfl, z⟩
  have Z := Lib.hid (Z0.trans (z.mono (by omega)))
  have BX := Lib.hid (BX0.below z)
  have BF := Lib.hid (BF0.after z)
  have LM := Lib.hid (LM0.out.below Z.out)
  clear z Z0 BX0 BF0 hz LM0
  obtain ⟨gx, x_0, x_1, x_2, x_3⟩ := BX.out
  obtain ⟨a0, a1, a2, a3, a4, a5, a6⟩ := BF.out.cells
  have la := BF.out.lt
  simp only at a0 a1 a2 a3 a4 a5 a6
  go_wp2_with fail
  refine (step_n LM.out HN.out HS.out HU.out HP.out).mono ?_
  rintro _ w2 ⟨A2, c2, rfl, hn2, z⟩
  clear gx x_0 x_1 x_2 x_3 a0 a1 a2 a3 a4 a5 a6 la
  replace Z := Lib.hid (Z.out.trans (z.mono Z.out.size))
  replace BX := Lib.hid (BX.out.below z)
  replace BF := Lib.hid (BF.out.after z)
  replace LM := Lib.hid (LM.out.below z)
  have LA := Lib.hid hn2.rd
  clear hn2 z
  obtain ⟨ws, hws⟩ : ∃ ws, ws = w2.alloc (.cells #[.int .i64 f'.op, .int .i64 f'.pc, .int .i64 f'.who, .int .u64 f'.val, .int .u64 f'.x, .int .u64 f'.y, .int .i64 f'.res] 28) := ⟨_, rfl⟩
  have z := box_below w2 (.cells #[.int .i64 f'.op, .int .i64 f'.pc, .int .i64 f'.who, .int .u64 f'.val, .int .u64 f'.x, .int .u64 f'.y, .int .i64 f'.res] 28)
  rw [← hws] at z
  have BG := Lib.hid (show Bf ws w2.heap.size f' by rw [hws]; exact Bf.new w2 f')
  replace Z := Lib.hid (Z.out.trans (z.mono Z.out.size))
  replace BX := Lib.hid (BX.out.below z)
  replace BF := Lib.hid (BF.out.after z)
  replace LM := Lib.hid (LM.out.below z)
  replace LA := Lib.hid (LA.out.below z)
  have HWS := Lib.hid hws
  clear z hws
  go_wp2
  go_loopw [10, 11, 12] (fun cn at_ i wr => ∃ (j : Nat) (C a : Int), i = .int .i64 j ∧ cn = .int .i64 C ∧ at_ = .int .i64 a ∧ j ≤ n ∧ Hid (Dv dif j C a) ∧ Hid (Below ws.heap.size ws wr)) (fun _ _ i _ => n - (intOf i).toNat)
  case atStart =>
    obtain rfl := HWS.out
    exact ⟨0, 0, -1, rfl, rfl, rfl, by omega, Lib.hid (.inr ⟨by omega, rfl, rfl⟩), Lib.hid (Below.refl _ _)⟩
  case round =>
    obtain ⟨j, C, a, rfl, rfl, rfl, hj, HV, HZ⟩ := hrel
    by_cases hlt : j < n
    · have h1 : j < l'.length := by rw [HL2.out]; exact hlt
      have h2 : j < m.length := by rw [HN.out]; exact hlt
      obtain ⟨e1, rfl, al, ac⟩ := (LA.out.below HZ.out) (by omega)
      obtain ⟨e2, rfl, bl, bc⟩ := (LM.out.below HZ.out) (by omega)
      have k1 := ac j _ (List.getElem?_eq_getElem h1)
      have k2 := bc j _ (List.getElem?_eq_getElem h2)
      have hjl : (j : Int) < (n : Int) := by omega
      have hdj := HD.out j hlt
      rw [at0_in (by omega) (by omega), at0_in (by omega) (by omega)] at hdj
      simp only [Int.toNat_natCast] at hdj
      generalize l'[j] = u at *
      generalize m[j] = u' at *
      clear ac bc al bl h1 h2
      by_cases hje : (j : Int) = dif
      · have huv : (u != u') = true := by simpa using hdj.2 hje
        have hcc : C = 0 := by rcases HV.out with ⟨_, h, _⟩ | ⟨_, h, _⟩; omega; exact h
        subst hcc
        have HJE := Lib.hid hje
        clear hje hdj
        go_wp2_with fail
        go_quiet (fail)
        go_wp2
        go_roundw
        case rel => exact ⟨j + 1, 1, (j : Int), by go_num, by go_num, rfl, by omega, Lib.hid (.inl ⟨by have := HJE.out; omega, by have := HJE.out; omega, rfl, HJE.out⟩), Lib.hid (HZ.out.trans ((below_drewN _ _).mono HZ.out.size))⟩
        case measure => simp [intOf]; omega
      · have huv : (u != u') = false := by by_cases h : u = u'; simp [h]; exact absurd (hdj.1 h) hje
        have HJE := Lib.hid hje
        clear hje hdj
        go_wp2_with fail
        go_quiet (fail)
        go_wp2
        go_roundw
        case rel =>
          refine ⟨j + 1, C, a, by go_num, rfl, rfl, by omega, Lib.hid ?_, Lib.hid (HZ.out.trans ((below_drewN _ _).mono HZ.out.size))⟩
          have h3 := HJE.out
          rcases HV.out with ⟨h1, h2, h4, h5⟩ | ⟨h1, h2, h4⟩
          · exact .inl ⟨h1, by omega, h4, h5⟩
          · exact .inr ⟨by omega, h2, h4⟩
        case measure => simp [intOf]; omega
    · obtain rfl : j = n := by omega
      replace BX := Lib.hid (BX.out.below HZ.out)
      replace BF := Lib.hid (BF.out.after HZ.out)
      replace LM := Lib.hid (LM.out.below HZ.out)
      replace LA := Lib.hid (LA.out.below HZ.out)
      replace BG := Lib.hid (BG.out.after HZ.out)
      replace Z := Lib.hid (Z.out.trans (HZ.out.mono Z.out.size))
      clear HZ HWS hlt hj
      obtain ⟨gx, x_0, x_1, x_2, x_3⟩ := BX.out
      obtain ⟨a0, a1, a2, a3, a4, a5, a6⟩ := BF.out.cells
      have la := BF.out.lt
      simp only at a0 a1 a2 a3 a4 a5 a6
      cases hg : goes W D J S m ⟨o, p, q, v, x, y, s⟩ 0 4
      · have hst := HST.out hg
        injection hst with hst1 hst2
        have HG := Lib.hid hg
        have hC : C = 0 := by
          have h := HW.out
          rcases h with h | ⟨_, _, h, _⟩
          · rcases HV.out with ⟨h1, _⟩ | ⟨_, h2, _⟩; omega; exact h2
          · rw [hg] at h; cases h
        subst hC
        rw [hst2] at BG
        clear hg hst1 hst2
        go_wp2_with fail
        refine (Tells.of (goes_any W D J S 0 4 A j c m ⟨o, p, q, v, x, y, s⟩ _ HN.out) (v' := .bool false) (by rw [HG.out])).mono ?_
        rintro _ w3 ⟨rfl, z⟩
        clear gx x_0 x_1 x_2 x_3 a0 a1 a2 a3 a4 a5 a6 la
        replace Z := Lib.hid (Z.out.trans (z.mono Z.out.size))
        replace BX := Lib.hid (BX.out.below z)
        replace BF := Lib.hid (BF.out.after z)
        replace LM := Lib.hid (LM.out.below z)
        replace LA := Lib.hid (LA.out.below z)
        replace BG := Lib.hid (BG.out.after z)
        clear z
        obtain ⟨a0, a1, a2, a3, a4, a5, a6⟩ := BF.out.cells
        have la := BF.out.lt
        simp only at a0 a1 a2 a3 a4 a5 a6
        obtain ⟨b0, b1, b2, b3, b4, b5, b6⟩ := BG.out.cells
        have lb := BG.out.lt
        simp only at b0 b1 b2 b3 b4 b5 b6
        go_wp2
        go_ret
        exact ⟨rfl, Z.out⟩
      · have HG := Lib.hid hg
        have hok := (goes_iff.1 hg).1
        simp only at hok
        have HOW := Lib.hid (ow_ok hok 1)
        have HSL := Lib.hid (sl_ok hok x)
        have hge := bg_ge (J := J) (may_lim (okw_iff.1 hok).1).2.1.1 (may_lim (okw_iff.1 hok).1).2.2.1.1 (okw_iff.1 hok).2.2.1
        have hsI := (sI_lim (J := J) (w := q) (may_lim (okw_iff.1 hok).1).2.1.1 x).1
        have HUX := Lib.hid HU.out.2.1
        have hway : (C = 0 ∧ a = -1) ∨ (C = 1 ∧ 2 ≤ p ∧ (a = bg D J q + 1 ∨ (¬ a = bg D J q + 1 ∧ a = sI D J q x))) := by
          rcases HV.out with ⟨h1, h2, h3, h4⟩ | ⟨h1, h2, h3⟩
          · right
            rcases HW.out with h | ⟨_, _, _, h5, h6⟩
            · omega
            · exact ⟨h3, h5, by rw [h4]; omega⟩
          · exact .inl ⟨h2, h3⟩
        have HWAY := Lib.hid hway
        have HGE := Lib.hid hge
        have HSI := Lib.hid hsI
        clear hg hok hway hge hsI
        go_wp2_with fail
        refine (Tells.of (goes_any W D J S 0 4 A j c m ⟨o, p, q, v, x, y, s⟩ _ HN.out) (v' := .bool true) (by rw [HG.out])).mono ?_
        rintro _ w3 ⟨rfl, z⟩
        clear gx x_0 x_1 x_2 x_3 a0 a1 a2 a3 a4 a5 a6 la
        replace Z := Lib.hid (Z.out.trans (z.mono Z.out.size))
        replace BX := Lib.hid (BX.out.below z)
        replace BF := Lib.hid (BF.out.after z)
        replace LM := Lib.hid (LM.out.below z)
        replace LA := Lib.hid (LA.out.below z)
        replace BG := Lib.hid (BG.out.after z)
        clear z
        obtain ⟨gx, x_0, x_1, x_2, x_3⟩ := BX.out
        obtain ⟨a0, a1, a2, a3, a4, a5, a6⟩ := BF.out.cells
        have la := BF.out.lt
        simp only at a0 a1 a2 a3 a4 a5 a6
        go_wp2_with fail
        refine (Tells.of (bottom_any W D J S q _) (v' := .int .i64 (bg D J q + 1)) (by rw [HOW.out])).mono ?_
        rintro _ w4 ⟨rfl, z⟩
        clear gx x_0 x_1 x_2 x_3 a0 a1 a2 a3 a4 a5 a6 la
        replace Z := Lib.hid (Z.out.trans (z.mono Z.out.size))
        replace BX := Lib.hid (BX.out.below z)
        replace BF := Lib.hid (BF.out.after z)
        replace LM := Lib.hid (LM.out.below z)
        replace LA := Lib.hid (LA.out.below z)
        replace BG := Lib.hid (BG.out.after z)
        clear z
        obtain ⟨gx, x_0, x_1, x_2, x_3⟩ := BX.out
        obtain ⟨a0, a1, a2, a3, a4, a5, a6⟩ := BF.out.cells
        have la := BF.out.lt
        simp only at a0 a1 a2 a3 a4 a5 a6
        have HGB := Lib.hid (show bg D J q + 1 ≥ 9 by have := HGE.out; omega)
        have HXB := Lib.hid (show sI D J q x ≥ 9 by have := HGE.out; have := HSI.out; omega)
        clear HGE HSI
        generalize bg D J q + 1 = B at *
        generalize sI D J q x = X at *
        rcases HWAY.out with ⟨rfl, rfl⟩ | ⟨rfl, hp, rfl | ⟨hne, rfl⟩⟩
        · have q1 : ((-1 : Int) == B) = false := by have := HGB.out; simp; omega
          have q2 : ((-1 : Int) == X) = false := by have := HXB.out; simp; omega
          go_wp2_with fail
          refine (Tells.of (slot_any W D J S q x _ HUX.out) (v' := .int .i64 X) (by rw [HSL.out])).mono ?_
          rintro _ w5 ⟨rfl, z⟩
          clear gx x_0 x_1 x_2 x_3 a0 a1 a2 a3 a4 a5 a6 la
          replace Z := Lib.hid (Z.out.trans (z.mono Z.out.size))
          replace BX := Lib.hid (BX.out.below z)
          replace BF := Lib.hid (BF.out.after z)
          replace LM := Lib.hid (LM.out.below z)
          replace LA := Lib.hid (LA.out.below z)
          replace BG := Lib.hid (BG.out.after z)
          clear z
          obtain ⟨a0, a1, a2, a3, a4, a5, a6⟩ := BF.out.cells
          have la := BF.out.lt
          simp only at a0 a1 a2 a3 a4 a5 a6
          go_wp2
          go_ret
          exact ⟨rfl, Z.out⟩
        · have q3 : decide (2 ≤ p) = true := decide_eq_true hp
          have q4 : (a == a) = true := by simp
          clear hp
          go_wp2
          go_ret
          exact ⟨rfl, Z.out⟩
        · have q3 : decide (2 ≤ p) = true := decide_eq_true hp
          have q4 : (a == B) = false := by simpa using hne
          clear hp hne
          go_wp2_with fail
          refine (Tells.of (slot_any W D J S q x _ HUX.out) (v' := .int .i64 a) (by rw [HSL.out])).mono ?_
          rintro _ w5 ⟨rfl, z⟩
          clear gx x_0 x_1 x_2 x_3 a0 a1 a2 a3 a4 a5 a6 la
          replace Z := Lib.hid (Z.out.trans (z.mono Z.out.size))
          replace BX := Lib.hid (BX.out.below z)
          replace BF := Lib.hid (BF.out.after z)
          replace LM := Lib.hid (LM.out.below z)
          replace LA := Lib.hid (LA.out.below z)
          replace BG := Lib.hid (BG.out.after z)
          clear z
          obtain ⟨a0, a1, a2, a3, a4, a5, a6⟩ := BF.out.cells
          have la := BF.out.lt
          simp only at a0 a1 a2 a3 a4 a5 a6
          have q5 : (a == a) = true := by simp
          go_wp2
          go_ret
          exact ⟨rfl, Z.out⟩
theorem cells_walk (W D J S : Int) (A : Option Addr) (n c : Nat) (m : List Int) (f : Fr) (w : World) (hm : Rd w A m) (hn : m.length = n) (hf : UF f) : Tells 5 #[cf W D J S, .slice A n c, fv f] w (.bool true) := by
  by_cases hs : n ≤ 500
  · exact cells_main W D J S A n c m f w hm hn hs hf
  · exact cells_big W D J S A n c f w (by omega)
end Go.Proofs.Ytjbmldadlpbiaaa
