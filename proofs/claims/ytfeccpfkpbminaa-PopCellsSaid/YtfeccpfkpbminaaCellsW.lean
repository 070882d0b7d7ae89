/- The walk of PopCells. -/
import Derived.Test.YtfeccpfkpbminaaPoH
import Derived.Test.YtfeccpfkpbminaaSaL
import Derived.Deep.QuietTactic
import Derived.BigQuiet
namespace Go.Proofs.Ytfeccpfkpbminaa
open Go.RowKit Go.Deep
attribute [local go_sem ↓] eql_fr guard_fr
/-- Where the cells differ behind a step: at one place, or at none. -/
theorem pcells_dif (W D J S : Int) (m : List Int) (f : Fr) : ∃ dif : Int, (∀ k : Nat, k < m.length → (¬ at0 (popS W D J S m f).1 k = at0 m k ↔ (k : Int) = dif)) ∧ (dif = -1 ∨ (0 ≤ dif ∧ dif < m.length ∧ goes W D J S m f 1 7 = true ∧ (dif = bg D J f.who + 1 ∧ f.pc ≠ 4 ∨ dif = bg D J f.who ∧ f.pc = 4))) := by
  by_cases h : ∃ k : Nat, k < m.length ∧ ¬ at0 (popS W D J S m f).1 k = at0 m k
  · obtain ⟨k, hk, hd⟩ := h
    obtain ⟨hg, hc⟩ := popS_cells hd
    refine ⟨(k : Int), fun i hi => ⟨fun hi2 => ?_, fun e => ?_⟩, .inr ⟨by omega, by omega, hg, hc⟩⟩
    · obtain ⟨_, hc2⟩ := popS_cells hi2
      omega
    · have : i = k := by omega
      subst this; exact hd
  · refine ⟨-1, fun i hi => ⟨fun h2 => absurd ⟨i, hi, h2⟩ h, fun e => by omega⟩, .inl rfl⟩
/-- So many differences ahead of place j, and the last one. -/
def Dv (dif : Int) (j : Nat) (cn a : Int) : Prop := (0 ≤ dif ∧ dif < j ∧ cn = 1 ∧ a = dif) ∨ ((dif < 0 ∨ (j : Int) ≤ dif) ∧ cn = 0 ∧ a = -1)
theorem cells_big (W D J S : Int) (A : Option Addr) (n c : Nat) (f : Fr) (w : World) (hn : 500 < n) : Tells 6 #[cf W D J S, .slice A n c, fv f] w (.bool true) := by
  obtain ⟨BX, BF, Z0, hz⟩ := boxes2 w W D J S f
  obtain ⟨o, p, q, v, x, y, s⟩ := f
  have hd : decide ((500 : Int) < (n : Int)) = true := decide_eq_true (by omega)
  go_enter Try.func6, Try.ntmps6
  go_wp2_with fail
  change Calls _ _ _ (bxc w W D J S ⟨o, p, q, v, x, y, s⟩) _
  generalize bxc w W D J S ⟨o, p, q, v, x, y, s⟩ = w0 at BX BF Z0 hz ⊢
  refine (awake_any _).mono ?_
  rintro _ w1 ⟨rfl, z⟩
  have Z := Lib.hid (Z0.trans (z.mono (by omega)))
  clear z
  go_wp2
  go_ret
  exact ⟨rfl, Z.out⟩
set_option maxHeartbeats 1000000 in
theorem cells_main (W D J S : Int) (A : Option Addr) (n c : Nat) (m : List Int) (f : Fr) (w : World) (hm : Rd w A m) (hn : m.length = n) (hs : n ≤ 500) (hf : UF f) : Tells 6 #[cf W D J S, .slice A n c, fv f] w (.bool true) := by
  obtain ⟨BX0, BF0, Z0, hz⟩ := boxes2 w W D J S f
  have hlen2 := (popS_len W D J S m f).trans hn
  obtain ⟨dif, hdif, hwhere⟩ := pcells_dif W D J S m f
  rw [hn] at hdif hwhere
  have hstay : goes W D J S m f 1 7 = false → popS W D J S m f = (m, f) := fun h => by unfold popS; rw [h]; rfl
  obtain ⟨l', f', hP⟩ : ∃ l' f', popS W D J S m f = (l', f') := ⟨_, _, rfl⟩
  rw [hP] at hlen2 hdif hstay
  simp only at hlen2 hdif
  obtain ⟨o, p, q, v, x, y, s⟩ := f
  simp only at hwhere
  have hd : decide ((500 : Int) < (n : Int)) = false := decide_eq_false (by omega)
  have HP := Lib.hid hP
  have HN := Lib.hid hn
  have HU := Lib.hid hf
  have HS := Lib.hid hs
  have HL2 := Lib.hid hlen2
  have HD := Lib.hid hdif
  have HWR := Lib.hid hwhere
  have HST := Lib.hid hstay
  have LM0 := Lib.hid hm
  clear hP hn hf hlen2 hdif hwhere hstay hm
  go_enter Try.func6, Try.ntmps6
  go_wp2_with fail
  change Calls _ _ _ (bxc w W D J S ⟨o, p, q, v, x, y, s⟩) _
  generalize bxc w W D J S ⟨o, p, q, v, x, y, s⟩ = w0 at BX0 BF0 Z0 hz ⊢
  refine (awake_any _).mono ?_
  rintro _ w1 ⟨rfl, z⟩
  have Z := Lib.hid (Z0.trans (z.mono (by omega)))
  have BX := Lib.hid (BX0.below z)
  have BF := Lib.hid (BF0.after z)
  have LM := Lib.hid (LM0.out.below Z.out)
  clear z Z0 BX0 BF0 hz LM0
  obtain ⟨gx, x_0, x_1, x_2, x_3⟩ := BX.out
  obtain ⟨a0, a1, a2, a3, a4, a5, a6⟩ := BF.out.cells
  have la := BF.out.lt
  simp only at a0 a1 a2 a3 a4 a5 a6
  go_wp2_with fail
  refine (pop_n LM.out HN.out HS.out HU.out HP.out).mono ?_
  rintro _ w2 ⟨A2, c2, rfl, hn2, z⟩
  clear gx x_0 x_1 x_2 x_3 a0 a1 a2 a3 a4 a5 a6 la
  replace Z := Lib.hid (Z.out.trans (z.mono Z.out.size))
  replace BX := Lib.hid (BX.out.below z)
  replace BF := Lib.hid (BF.out.after z)
  replace LM := Lib.hid (LM.out.below z)
  have LA := Lib.hid hn2.rd
  clear hn2 z
  obtain ⟨ws, hws⟩ : ∃ ws, ws = w2.alloc (.cells #[.int .i64 f'.op, .int .i64 f'.pc, .int .i64 f'.who, .int .u64 f'.val, .int .u64 f'.x, .int .u64 f'.y, .int .i64 f'.res] 28) := ⟨_, rfl⟩
  have hz := box_below w2 (.cells #[.int .i64 f'.op, .int .i64 f'.pc, .int .i64 f'.who, .int .u64 f'.val, .int .u64 f'.x, .int .u64 f'.y, .int .i64 f'.res] 28)
  rw [← hws] at hz
  have BG := Lib.hid (show Bf ws w2.heap.size f' by rw [hws]; exact Bf.new w2 f')
  replace BX := Lib.hid (BX.out.below hz)
  replace BF := Lib.hid (BF.out.after hz)
  replace LM := Lib.hid (LM.out.below hz)
  replace LA := Lib.hid (LA.out.below hz)
  replace Z := Lib.hid (Z.out.trans (hz.mono Z.out.size))
  have HW := Lib.hid hws
  clear hz hws
  go_wp2
  go_loopw [10, 11, 12] (fun cn at_ i wr => ∃ (j : Nat) (C a : Int), i = .int .i64 j ∧ cn = .int .i64 C ∧ at_ = .int .i64 a ∧ j ≤ n ∧ Hid (Dv dif j C a) ∧ Hid (Below ws.heap.size ws wr)) (fun _ _ i _ => n - (intOf i).toNat)
  case atStart =>
    obtain rfl := HW.out
    exact ⟨0, 0, -1, rfl, rfl, rfl, by omega, Lib.hid (.inr ⟨by omega, rfl, rfl⟩), Lib.hid (Below.refl _ _)⟩
  case round =>
    obtain ⟨j, C, a, rfl, rfl, rfl, hj, HV, HZ⟩ := hrel
    by_cases hlt : j < n
    · have h1 : j < l'.length := by rw [HL2.out]; exact hlt
      have h2 : j < m.length := by rw [HN.out]; exact hlt
      obtain ⟨e1, rfl, al, ac⟩ := (LA.out.below HZ.out) (by omega)
      obtain ⟨e2, rfl, bl, bc⟩ := (LM.out.below HZ.out) (by omega)
      have k1 := ac j _ (List.getElem?_eq_getElem h1)
      have k2 := bc j _ (List.getElem?_eq_getElem h2)
      have hjl : (j : Int) < (n : Int) := by omega
      have hdj := HD.out j hlt
      rw [at0_in (by omega) (by omega), at0_in (by omega) (by omega)] at hdj
      simp only [Int.toNat_natCast] at hdj
      generalize l'[j] = u at *
      generalize m[j] = u' at *
      clear ac bc al bl h1 h2
      by_cases hje : (j : Int) = dif
      · have huv : (u != u') = true := by simpa using hdj.2 hje
        have hcc : C = 0 := by rcases HV.out with ⟨_, h, _⟩ | ⟨_, h, _⟩; omega; exact h
        subst hcc
        have HJE := Lib.hid hje
        clear hje hdj
        go_wp2_with fail
        go_quiet (fail)
        go_wp2
        go_roundw
        case rel => exact ⟨j + 1, 1, (j : Int), by go_num, by go_num, rfl, by omega, Lib.hid (.inl ⟨by have := HJE.out; omega, by have := HJE.out; omega, rfl, HJE.out⟩), Lib.hid (HZ.out.trans ((below_drewN _ _).mono HZ.out.size))⟩
        case measure => simp [intOf]; omega
      · have huv : (u != u') = false := by by_cases h : u = u'; simp [h]; exact absurd (hdj.1 h) hje
        have HJE := Lib.hid hje
        clear hje hdj
        go_wp2_with fail
        go_quiet (fail)
        go_wp2
        go_roundw
        case rel =>
          refine ⟨j + 1, C, a, by go_num, rfl, rfl, by omega, Lib.hid ?_, Lib.hid (HZ.out.trans ((below_drewN _ _).mono HZ.out.size))⟩
          have h3 := HJE.out
          rcases HV.out with ⟨h1, h2, h4, h5⟩ | ⟨h1, h2, h4⟩
          · exact .inl ⟨h1, by omega, h4, h5⟩
          · exact .inr ⟨by omega, h2, h4⟩
        case measure => simp [intOf]; omega
    · obtain rfl : j = n := by omega
      replace BX := Lib.hid (BX.out.below HZ.out)
      replace BF := Lib.hid (BF.out.after HZ.out)
      replace LM := Lib.hid (LM.out.below HZ.out)
      replace LA := Lib.hid (LA.out.below HZ.out)
      replace BG := Lib.hid (BG.out.after HZ.out)
      replace Z := Lib.hid (Z.out.trans (HZ.out.mono Z.out.size))
      clear HZ HW hlt hj
      obtain ⟨gx, x_0, x_1, x_2, x_3⟩ := BX.out
      obtain ⟨a0, a1, a2, a3, a4, a5, a6⟩ := BF.out.cells
      have la := BF.out.lt
      simp only at a0 a1 a2 a3 a4 a5 a6
      cases hg : goes W D J S m ⟨o, p, q, v, x, y, s⟩ 1 7
      · have hst := HST.out hg
        injection hst with hst1 hst2
        have HG := Lib.hid hg
        have hC : C = 0 := by
          have h := HWR.out
          rcases h with h | ⟨_, _, h, _⟩
          · rcases HV.out with ⟨h1, _⟩ | ⟨_, h2, _⟩; omega; exact h2
          · rw [hg] at h; cases h
        subst hC
        rw [hst2] at BG
        clear hg hst1 hst2
        go_wp2_with fail
        refine (Tells.of (goes_any W D J S 1 7 A j c m ⟨o, p, q, v, x, y, s⟩ _ HN.out) (v' := .bool false) (by rw [HG.out])).mono ?_
        rintro _ w3 ⟨rfl, z⟩
        clear gx x_0 x_1 x_2 x_3 a0 a1 a2 a3 a4 a5 a6 la
        replace Z := Lib.hid (Z.out.trans (z.mono Z.out.size))
        replace BX := Lib.hid (BX.out.below z)
        replace BF := Lib.hid (BF.out.after z)
        replace LM := Lib.hid (LM.out.below z)
        replace LA := Lib.hid (LA.out.below z)
        replace BG := Lib.hid (BG.out.after z)
        clear z
        obtain ⟨a0, a1, a2, a3, a4, a5, a6⟩ := BF.out.cells
        have la := BF.out.lt
        simp only at a0 a1 a2 a3 a4 a5 a6
        obtain ⟨b0, b1, b2, b3, b4, b5, b6⟩ := BG.out.cells
        have lb := BG.out.lt
        simp only at b0 b1 b2 b3 b4 b5 b6
        go_wp2
        go_ret
        exact ⟨rfl, Z.out⟩
      · have HG := Lib.hid hg
        have hok := (goes_iff.1 hg).1
        simp only at hok
        have HOW := Lib.hid (ow_ok hok 1)
        have HOT := Lib.hid (show ow W D J S q 0 = bg D J q by rw [ow_ok hok, Int.add_zero])
        have hway : (C = 0 ∧ a = -1) ∨ (C = 1 ∧ p ≠ 4 ∧ a = bg D J q + 1) ∨ (C = 1 ∧ p = 4 ∧ a = bg D J q) := by
          rcases HV.out with ⟨h1, h2, h3, h4⟩ | ⟨h1, h2, h3⟩
          · right
            rcases HWR.out with h | ⟨_, _, _, h5⟩
            · omega
            · rcases h5 with ⟨h5, h6⟩ | ⟨h5, h6⟩
              · exact .inl ⟨h3, h6, by omega⟩
              · exact .inr ⟨h3, h6, by omega⟩
          · exact .inl ⟨h2, h3⟩
        have HWAY := Lib.hid hway
        clear hg hok hway
        go_wp2_with fail
        refine (Tells.of (goes_any W D J S 1 7 A j c m ⟨o, p, q, v, x, y, s⟩ _ HN.out) (v' := .bool true) (by rw [HG.out])).mono ?_
        rintro _ w3 ⟨rfl, z⟩
        clear gx x_0 x_1 x_2 x_3 a0 a1 a2 a3 a4 a5 a6 la
        replace Z := Lib.hid (Z.out.trans (z.mono Z.out.size))
        replace BX := Lib.hid (BX.out.below z)
        replace BF := Lib.hid (BF.out.after z)
        replace LM := Lib.hid (LM.out.below z)
        replace LA := Lib.hid (LA.out.below z)
        replace BG := Lib.hid (BG.out.after z)
        clear z
        obtain ⟨gx, x_0, x_1, x_2, x_3⟩ := BX.out
        obtain ⟨a0, a1, a2, a3, a4, a5, a6⟩ := BF.out.cells
        have la := BF.out.lt
        simp only at a0 a1 a2 a3 a4 a5 a6
        rcases HWAY.out with ⟨rfl, rfl⟩ | ⟨rfl, hp, rfl⟩ | ⟨rfl, rfl, rfl⟩
        · go_wp2
          go_ret
          exact ⟨rfl, Z.out⟩
        · have q3 : (p != 4) = true := by simpa using hp
          have q4 : (bg D J q + 1 == bg D J q + 1) = true := by simp
          clear hp
          generalize bg D J q + 1 = B at *
          go_wp2_with fail
          refine (Tells.of (bottom_any W D J S q _) (v' := .int .i64 B) (by rw [HOW.out])).mono ?_
          rintro _ w4 ⟨rfl, z⟩
          clear gx x_0 x_1 x_2 x_3 a0 a1 a2 a3 a4 a5 a6 la
          replace Z := Lib.hid (Z.out.trans (z.mono Z.out.size))
          replace BX := Lib.hid (BX.out.below z)
          replace BF := Lib.hid (BF.out.after z)
          replace LM := Lib.hid (LM.out.below z)
          replace LA := Lib.hid (LA.out.below z)
          replace BG := Lib.hid (BG.out.after z)
          clear z
          obtain ⟨gx, x_0, x_1, x_2, x_3⟩ := BX.out
          obtain ⟨a0, a1, a2, a3, a4, a5, a6⟩ := BF.out.cells
          have la := BF.out.lt
          simp only at a0 a1 a2 a3 a4 a5 a6
          go_wp2
          go_ret
          exact ⟨rfl, Z.out⟩
        · have q4 : (bg D J q == bg D J q + 1) = false := by rw [beq_eq_false_iff_ne]; omega
          have q5 : (bg D J q == bg D J q) = true := by simp
          generalize bg D J q + 1 = B at *
          generalize bg D J q = T at *
          go_wp2_with fail
          refine (Tells.of (bottom_any W D J S q _) (v' := .int .i64 B) (by rw [HOW.out])).mono ?_
          rintro _ w4 ⟨rfl, z⟩
          clear gx x_0 x_1 x_2 x_3 a0 a1 a2 a3 a4 a5 a6 la
          replace Z := Lib.hid (Z.out.trans (z.mono Z.out.size))
          replace BX := Lib.hid (BX.out.below z)
          replace BF := Lib.hid (BF.out.after z)
          replace LM := Lib.hid (LM.out.below z)
          replace LA := Lib.hid (LA.out.below z)
          replace BG := Lib.hid (BG.out.after z)
          clear z
          obtain ⟨gx, x_0, x_1, x_2, x_3⟩ := BX.out
          obtain ⟨a0, a1, a2, a3, a4, a5, a6⟩ := BF.out.cells
          have la := BF.out.lt
          simp only at a0 a1 a2 a3 a4 a5 a6
          go_wp2_with fail
          refine (Tells.of (top_any W D J S q _) (v' := .int .i64 T) (by rw [HOT.out])).mono ?_
          rintro _ w5 ⟨rfl, z⟩
          clear gx x_0 x_1 x_2 x_3 a0 a1 a2 a3 a4 a5 a6 la
          replace Z := Lib.hid (Z.out.trans (z.mono Z.out.size))
          replace BX := Lib.hid (BX.out.below z)
          replace BF := Lib.hid (BF.out.after z)
          replace LM := Lib.hid (LM.out.below z)
          replace LA := Lib.hid (LA.out.below z)
          replace BG := Lib.hid (BG.out.after z)
          clear z
          obtain ⟨gx, x_0, x_1, x_2, x_3⟩ := BX.out
          obtain ⟨a0, a1, a2, a3, a4, a5, a6⟩ := BF.out.cells
          have la := BF.out.lt
          simp only at a0 a1 a2 a3 a4 a5 a6
          go_wp2
          go_ret
          exact ⟨rfl, Z.out⟩
theorem cells_walk (W D J S : Int) (A : Option Addr) (n c : Nat) (m : List Int) (f : Fr) (w : World) (hm : Rd w A m) (hn : m.length = n) (hf : UF f) : Tells 6 #[cf W D J S, .slice A n c, fv f] w (.bool true) := by
  by_cases hs : n ≤ 500
  · exact cells_main W D J S A n c m f w hm hn hs hf
  · exact cells_big W D J S A n c f w (by omega)
end Go.Proofs.Ytfeccpfkpbminaa
