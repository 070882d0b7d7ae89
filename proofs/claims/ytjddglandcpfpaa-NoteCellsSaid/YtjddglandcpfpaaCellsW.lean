/- The walk of NoteCells. -/
import Derived.Test.YtjddglandcpfpaaNtF
import Derived.Test.YtjddglandcpfpaaFrH2
import Derived.IntWalk
import Derived.Deep.RegionHeld3
import Derived.Deep.QuietTactic
import Derived.BigQuiet
namespace Go.Proofs.Ytjddglandcpfpaa
open Go.RowKit Go.Deep
attribute [local go_sem ↓] eql_fr guard_fr
/-- So many differences ahead of place j, and the last one. -/
def Dv (dif : Int) (j : Nat) (cn a : Int) : Prop := (0 ≤ dif ∧ dif < j ∧ cn = 1 ∧ a = dif) ∨ ((dif < 0 ∨ (j : Int) ≤ dif) ∧ cn = 0 ∧ a = -1)
/-- The place is a park cell of one of the first j. -/
def pkd (W D J S a : Int) : Nat → Bool
  | 0 => false
  | j + 1 => pkd W D J S a j || (a == ow W D J S j 2)
theorem pkd_of {W D J S a : Int} {v : Nat} (h : a = ow W D J S v 2) : ∀ j, v < j → pkd W D J S a j = true := by
  intro j
  induction j with
  | zero => intro h2; omega
  | succ j ih =>
    intro h2
    unfold pkd
    by_cases c : v = j
    · subst c; simp [h]
    · rw [ih (by omega)]; rfl
theorem cells_big (W D J S : Int) (A : Option Addr) (n c : Nat) (f : Fr) (w : World) (hn : 500 < n) : Tells 5 #[cf W D J S, .slice A n c, fv f] w (.bool true) := by
  obtain ⟨o, p, q, v, x, y, s⟩ := f
  have hd : decide ((500 : Int) < (n : Int)) = true := decide_eq_true (by omega)
  obtain ⟨BX0, BF0, Z0, hz⟩ := boxes2 w W D J S ⟨o, p, q, v, x, y, s⟩
  go_enter Try.func5, Try.ntmps5
  go_wp2_with fail
  change Calls _ _ _ (bxc w W D J S ⟨o, p, q, v, x, y, s⟩) _
  generalize bxc w W D J S ⟨o, p, q, v, x, y, s⟩ = w0 at BX0 BF0 Z0 hz ⊢
  refine (awake_any _).mono ?_
  rintro _ w1 ⟨rfl, z⟩
  have Z := Lib.hid (Z0.trans (z.mono (by omega)))
  have BX := Lib.hid (BX0.below z)
  have BF := Lib.hid (BF0.after z)
  have HZ0 := Lib.hid (show w.heap.size ≤ w0.heap.size by omega)
  clear z Z0 BX0 BF0 hz HZ0
  obtain ⟨gx, x_0, x_1, x_2, x_3⟩ := BX.out
  obtain ⟨a0, a1, a2, a3, a4, a5, a6⟩ := BF.out.cells
  have la := BF.out.lt
  simp only at a0 a1 a2 a3 a4 a5 a6
  go_wp2
  go_ret
  exact ⟨rfl, Z.out⟩
set_option maxHeartbeats 2000000 in
theorem cells_main (W D J S : Int) (A : Option Addr) (n c : Nat) (m : List Int) (f : Fr) (w : World) (hm : Rd w A m) (hn : m.length = n) (hs : n ≤ 500) (hu : UM m) (hf : UF f) : Tells 5 #[cf W D J S, .slice A n c, fv f] w (.bool true) := by
  have hlen2 := (noteS_len W D J S m f).trans hn
  obtain ⟨dif, hdif, hwhere⟩ := ncells_dif W D J S m f
  rw [hn] at hdif hwhere
  have hstay : goesN W D J S m f = false → noteS W D J S m f = (m, f) := noteS_stay
  obtain ⟨l', f', hP⟩ : ∃ l' f', noteS W D J S m f = (l', f') := ⟨_, _, rfl⟩
  rw [hP] at hlen2 hdif hstay hwhere
  simp only at hlen2 hdif
  obtain ⟨o, p, q, v, x, y, s⟩ := f
  simp only at hwhere
  have hd : decide ((500 : Int) < (n : Int)) = false := decide_eq_false (by omega)
  have HP := Lib.hid hP
  have HN := Lib.hid hn
  have HU := Lib.hid hf
  have HS := Lib.hid hs
  have HL2 := Lib.hid hlen2
  have HD := Lib.hid hdif
  have HWR := Lib.hid hwhere
  have HST := Lib.hid hstay
  have HUM := Lib.hid hu
  have LM0 := Lib.hid hm
  clear hP hn hf hlen2 hdif hwhere hstay hm hu
  obtain ⟨BX0, BF0, Z0, hz⟩ := boxes2 w W D J S ⟨o, p, q, v, x, y, s⟩
  go_enter Try.func5, Try.ntmps5
  go_wp2_with fail
  change Calls _ _ _ (bxc w W D J S ⟨o, p, q, v, x, y, s⟩) _
  generalize bxc w W D J S ⟨o, p, q, v, x, y, s⟩ = w0 at BX0 BF0 Z0 hz ⊢
  refine (awake_any _).mono ?_
  rintro _ w1 ⟨rfl, z⟩
  have Z := Lib.hid (Z0.trans (z.mono (by omega)))
  have BX := Lib.hid (BX0.below z)
  have BF := Lib.hid (BF0.after z)
  have HZ0 := Lib.hid (show w.heap.size ≤ w0.heap.size by omega)
  have LM := Lib.hid (LM0.out.below Z.out)
  clear LM0
  clear z Z0 BX0 BF0 hz HZ0
  obtain ⟨gx, x_0, x_1, x_2, x_3⟩ := BX.out
  obtain ⟨a0, a1, a2, a3, a4, a5, a6⟩ := BF.out.cells
  have la := BF.out.lt
  simp only at a0 a1 a2 a3 a4 a5 a6
  go_wp2_with fail
  refine (note_n LM.out HN.out HS.out HU.out HP.out).mono ?_
  rintro _ w2 ⟨A2, c2, rfl, hn2, z⟩
  clear gx x_0 x_1 x_2 x_3 a0 a1 a2 a3 a4 a5 a6 la
  replace Z := Lib.hid (Z.out.trans (z.mono Z.out.size))
  replace BX := Lib.hid (BX.out.below z)
  replace BF := Lib.hid (BF.out.after z)
  replace LM := Lib.hid (LM.out.below z)
  have LA := Lib.hid hn2.rd
  clear hn2 z
  obtain ⟨ws, hws⟩ : ∃ ws, ws = w2.alloc (.cells #[.int .i64 f'.op, .int .i64 f'.pc, .int .i64 f'.who, .int .u64 f'.val, .int .u64 f'.x, .int .u64 f'.y, .int .i64 f'.res] 29) := ⟨_, rfl⟩
  have hz := box_below w2 (.cells #[.int .i64 f'.op, .int .i64 f'.pc, .int .i64 f'.who, .int .u64 f'.val, .int .u64 f'.x, .int .u64 f'.y, .int .i64 f'.res] 29)
  rw [← hws] at hz
  have BG := Lib.hid (show Bf ws w2.heap.size f' by rw [hws]; exact Bf.new w2 f')
  replace BX := Lib.hid (BX.out.below hz)
  replace BF := Lib.hid (BF.out.after hz)
  replace LM := Lib.hid (LM.out.below hz)
  replace LA := Lib.hid (LA.out.below hz)
  replace Z := Lib.hid (Z.out.trans (hz.mono Z.out.size))
  have HW := Lib.hid hws
  clear hz hws
  go_wp2
  go_loopw [10, 11, 12] (fun cn at_ i wr => ∃ (j : Nat) (C a : Int), i = .int .i64 j ∧ cn = .int .i64 C ∧ at_ = .int .i64 a ∧ j ≤ n ∧ Hid (Dv dif j C a) ∧ Hid (Below ws.heap.size ws wr)) (fun _ _ i _ => n - (intOf i).toNat)
  case atStart =>
    obtain rfl := HW.out
    exact ⟨0, 0, -1, rfl, rfl, rfl, by omega, Lib.hid (.inr ⟨by omega, rfl, rfl⟩), Lib.hid (Below.refl _ _)⟩
  case round =>
    obtain ⟨j, C, a, rfl, rfl, rfl, hj, HV, HZ⟩ := hrel
    by_cases hlt : j < n
    · have h1 : j < l'.length := by rw [HL2.out]; exact hlt
      have h2 : j < m.length := by rw [HN.out]; exact hlt
      obtain ⟨e1, rfl, al, ac⟩ := (LA.out.below HZ.out) (by omega)
      obtain ⟨e2, rfl, bl, bc⟩ := (LM.out.below HZ.out) (by omega)
      have k1 := ac j _ (List.getElem?_eq_getElem h1)
      have k2 := bc j _ (List.getElem?_eq_getElem h2)
      have hjl : (j : Int) < (n : Int) := by omega
      have hdj := HD.out j hlt
      rw [at0_in (by omega) (by omega), at0_in (by omega) (by omega)] at hdj
      simp only [Int.toNat_natCast] at hdj
      generalize l'[j] = u at *
      generalize m[j] = u' at *
      clear ac bc al bl h1 h2
      by_cases hje : (j : Int) = dif
      · have huv : (u != u') = true := by simpa using hdj.2 hje
        have hcc : C = 0 := by rcases HV.out with ⟨_, h, _⟩ | ⟨_, h, _⟩; omega; exact h
        subst hcc
        have HJE := Lib.hid hje
        clear hje hdj
        go_wp2_with fail
        go_quiet (fail)
        go_wp2
        go_roundw
        case rel => exact ⟨j + 1, 1, (j : Int), by go_num, by go_num, rfl, by omega, Lib.hid (.inl ⟨by have := HJE.out; omega, by have := HJE.out; omega, rfl, HJE.out⟩), Lib.hid (HZ.out.trans ((below_drewN _ _).mono HZ.out.size))⟩
        case measure => simp [intOf]; omega
      · have huv : (u != u') = false := by by_cases h : u = u'; simp [h]; exact absurd (hdj.1 h) hje
        have HJE := Lib.hid hje
        clear hje hdj
        go_wp2_with fail
        go_quiet (fail)
        go_wp2
        go_roundw
        case rel =>
          refine ⟨j + 1, C, a, by go_num, rfl, rfl, by omega, Lib.hid ?_, Lib.hid (HZ.out.trans ((below_drewN _ _).mono HZ.out.size))⟩
          have h3 := HJE.out
          rcases HV.out with ⟨h1, h2, h4, h5⟩ | ⟨h1, h2, h4⟩
          · exact .inl ⟨h1, by omega, h4, h5⟩
          · exact .inr ⟨by omega, h2, h4⟩
        case measure => simp [intOf]; omega
    · obtain rfl : j = n := by omega
      replace BX := Lib.hid (BX.out.below HZ.out)
      replace BF := Lib.hid (BF.out.after HZ.out)
      replace LM := Lib.hid (LM.out.below HZ.out)
      replace LA := Lib.hid (LA.out.below HZ.out)
      replace BG := Lib.hid (BG.out.after HZ.out)
      replace Z := Lib.hid (Z.out.trans (HZ.out.mono Z.out.size))
      clear HZ HW hlt hj
      obtain ⟨gx, x_0, x_1, x_2, x_3⟩ := BX.out
      obtain ⟨a0, a1, a2, a3, a4, a5, a6⟩ := BF.out.cells
      have la := BF.out.lt
      simp only at a0 a1 a2 a3 a4 a5 a6
      cases hg : goesN W D J S m ⟨o, p, q, v, x, y, s⟩
      · have hst := HST.out hg
        injection hst with hst1 hst2
        have HG := Lib.hid hg
        have hC : C = 0 := by
          have h := HWR.out
          rcases h with h | ⟨_, _, h, _⟩
          · rcases HV.out with ⟨h1, _⟩ | ⟨_, h2, _⟩; omega; exact h2
          · rw [hg] at h; cases h
        subst hC
        rw [hst2] at BG
        clear hg hst1 hst2
        go_wp2_with fail
        refine (Tells.of (ngoes_any W D J S A j c m ⟨o, p, q, v, x, y, s⟩ _ HN.out) (v' := .bool false) (by rw [HG.out])).mono ?_
        rintro _ w3 ⟨rfl, z⟩
        clear gx x_0 x_1 x_2 x_3 a0 a1 a2 a3 a4 a5 a6 la
        replace Z := Lib.hid (Z.out.trans (z.mono Z.out.size))
        replace BX := Lib.hid (BX.out.below z)
        replace BF := Lib.hid (BF.out.after z)
        replace LM := Lib.hid (LM.out.below z)
        replace LA := Lib.hid (LA.out.below z)
        replace BG := Lib.hid (BG.out.after z)
        clear z
        obtain ⟨a0, a1, a2, a3, a4, a5, a6⟩ := BF.out.cells
        have la := BF.out.lt
        simp only at a0 a1 a2 a3 a4 a5 a6
        obtain ⟨b0, b1, b2, b3, b4, b5, b6⟩ := BG.out.cells
        have lb := BG.out.lt
        simp only at b0 b1 b2 b3 b4 b5 b6
        go_wp2
        go_ret
        exact ⟨rfl, Z.out⟩
      · have HG := Lib.hid hg
        obtain ⟨hk, hr, ho, h0, h4⟩ := goesN_iff.1 hg
        simp only at hk hr ho h0 h4
        have hlong := okm_long10 hk
        have hjn := HN.out
        have hway : (C = 0 ∧ a = -1 ∧ (p = 0 ∨ p = 1 ∨ p = 2)) ∨ (C = 1 ∧ a = 2 ∧ p = 1 ∧ at0 l' 2 / 65536 = (at0 m 2 / 65536 + 1) % 281474976710656) ∨ (C = 1 ∧ (∃ v, okw W D J S m v = true ∧ a = ow W D J S v 2) ∧ p = 2 ∧ at0 l' a = 1 ∧ 0 ≤ a ∧ a < j) := by
          rcases HV.out with ⟨h1, h2, h3, h5⟩ | ⟨h1, h2, h3⟩
          · right
            rcases HWR.out with h | ⟨i1, i2, _, ⟨e1, rfl, e3⟩ | ⟨e1, e2, e3⟩⟩
            · omega
            · exact .inl ⟨h3, h5, e1, e3⟩
            · subst h5; exact .inr ⟨h3, e2, e1, e3, i1, i2⟩
          · exact .inl ⟨h2, h3, by omega⟩
        have HWAY := Lib.hid hway
        have HLONG := Lib.hid (show 10 < j by rw [← hjn]; exact hlong)
        clear hg hk hr ho h0 h4 hlong hjn hway
        go_wp2_with fail
        refine (Tells.of (ngoes_any W D J S A j c m ⟨o, p, q, v, x, y, s⟩ _ HN.out) (v' := .bool true) (by rw [HG.out])).mono ?_
        rintro _ w3 ⟨rfl, z⟩
        clear gx x_0 x_1 x_2 x_3 a0 a1 a2 a3 a4 a5 a6 la
        replace Z := Lib.hid (Z.out.trans (z.mono Z.out.size))
        replace BX := Lib.hid (BX.out.below z)
        replace BF := Lib.hid (BF.out.after z)
        replace LM := Lib.hid (LM.out.below z)
        replace LA := Lib.hid (LA.out.below z)
        replace BG := Lib.hid (BG.out.after z)
        clear z
        go_wp2
        go_loopw [13, 14] (fun pb i wt => ∃ k : Nat, i = .int .i64 k ∧ pb = .bool (pkd W D J S a k) ∧ k ≤ 8 ∧ Hid (Below w3.heap.size w3 wt)) (fun _ i _ => 8 - (intOf i).toNat)
        case atStart => exact ⟨0, rfl, rfl, by omega, Lib.hid (Below.refl _ _)⟩
        case round =>
          obtain ⟨k, rfl, rfl, hk8, HZ⟩ := hrel
          by_cases hlt : k < 8
          · obtain ⟨_, b0, b1, b2, b3⟩ := BX.out.below HZ.out
            have HSU := Lib.hid (show pkd W D J S a (k + 1) = (pkd W D J S a k || (a == ow W D J S k 2)) from rfl)
            cases hpb : pkd W D J S a k
            · have HPB := Lib.hid hpb
              go_wp2_with fail
              refine (park_any W D J S k _).mono ?_
              rintro _ w9 ⟨rfl, zb⟩
              have HZ9 := Lib.hid (keep_call (w2 := w3) zb HZ.out)
              clear zb b0 b1 b2 b3
              go_wp2_with fail
              go_roundw
              case rel => exact ⟨k + 1, by go_num, by rw [HSU.out, HPB.out]; rfl, by omega, HZ9⟩
              case measure => simp [intOf]; omega
            · have HPB := Lib.hid hpb
              go_wp2_with fail
              go_roundw
              case rel => exact ⟨k + 1, by go_num, by rw [HSU.out, HPB.out]; rfl, by omega, HZ⟩
              case measure => simp [intOf]; omega
          · obtain rfl : k = 8 := by omega
            replace BX := Lib.hid (BX.out.below HZ.out)
            replace BF := Lib.hid (BF.out.after HZ.out)
            replace LM := Lib.hid (LM.out.below HZ.out)
            replace LA := Lib.hid (LA.out.below HZ.out)
            replace BG := Lib.hid (BG.out.after HZ.out)
            replace Z := Lib.hid (Z.out.trans (HZ.out.mono Z.out.size))
            clear HZ hlt hk8
            rcases HWAY.out with ⟨rfl, rfl, rfl | rfl | rfl⟩ | ⟨rfl, rfl, rfl, hl2⟩ | ⟨rfl, hv, rfl, hl4, ha0, ha1⟩
            · obtain ⟨a0, a1, a2, a3, a4, a5, a6⟩ := BF.out.cells
              have la := BF.out.lt
              simp only at a0 a1 a2 a3 a4 a5 a6
              obtain ⟨gx, x_0, x_1, x_2, x_3⟩ := BX.out
              generalize pkd W D J S (-1) 8 = pb
              go_wp2_with fail
              go_quiet (fail)
              go_wp2
              go_ret
              exact ⟨rfl, Z.out.trans ((below_drewN _ _).mono Z.out.size)⟩
            · obtain ⟨a0, a1, a2, a3, a4, a5, a6⟩ := BF.out.cells
              have la := BF.out.lt
              simp only at a0 a1 a2 a3 a4 a5 a6
              obtain ⟨gx, x_0, x_1, x_2, x_3⟩ := BX.out
              generalize pkd W D J S (-1) 8 = pb
              go_wp2_with fail
              go_quiet (fail)
              go_wp2
              go_ret
              exact ⟨rfl, Z.out.trans ((below_drewN _ _).mono Z.out.size)⟩
            · obtain ⟨a0, a1, a2, a3, a4, a5, a6⟩ := BF.out.cells
              have la := BF.out.lt
              simp only at a0 a1 a2 a3 a4 a5 a6
              obtain ⟨gx, x_0, x_1, x_2, x_3⟩ := BX.out
              generalize pkd W D J S (-1) 8 = pb
              go_wp2_with fail
              go_quiet (fail)
              go_wp2
              go_ret
              exact ⟨rfl, Z.out.trans ((below_drewN _ _).mono Z.out.size)⟩
            · generalize pkd W D J S 2 8 = pb
              have h1 : 2 < l'.length := by have := HL2.out; have := HLONG.out; omega
              have h2 : 2 < m.length := by have := HN.out; have := HLONG.out; omega
              obtain ⟨ad, rfl, al, ac⟩ := LA.out (by omega)
              obtain ⟨ae, rfl, bl, bc⟩ := LM.out (by omega)
              have k1 := ac 2 _ (List.getElem?_eq_getElem h1)
              have k2 := bc 2 _ (List.getElem?_eq_getElem h2)
              have r1 := at0_in (l := l') (i := 2) (by omega) (by omega)
              have r2 := at0_in (l := m) (i := 2) (by omega) (by omega)
              change at0 l' 2 = l'[2] at r1
              change at0 m 2 = m[2] at r2
              rw [← r1] at k1
              rw [← r2] at k2
              have hjl : (2 : Int) < (j : Int) := by have := HLONG.out; omega
              change wr.cell? ⟨ad.block, ad.off + 2, none⟩ = _ at k1
              change wr.cell? ⟨ae.block, ae.off + 2, none⟩ = _ at k2
              have hue := at0_U HUM.out 2
              generalize at0 m 2 = E at *
              generalize at0 l' 2 = T at *
              obtain ⟨P, hPe⟩ : ∃ P, T / 65536 = P := ⟨_, rfl⟩
              obtain ⟨Q, hQe⟩ : ∃ Q, E / 65536 = Q := ⟨_, rfl⟩
              rw [hPe, hQe] at hl2
              have hq0 : 0 ≤ Q ∧ Q < 281474976710656 := by unfold U at hue; omega
              have hw1 : IntKind.u64.wrap (Q + 1) = Q + 1 := by rw [IntKind.wrap_u64]; omega
              have hw2 : (Q + 1).tmod 281474976710656 = P := by rw [Int.tmod_eq_emod_of_nonneg (by omega)]; exact hl2.symm
              have hw4 : IntKind.u64.wrap P = P := by rw [IntKind.wrap_u64]; omega
              have hw3 : (P == P) = true := by simp
              have HT := Lib.hid hPe
              have HQE := Lib.hid hQe
              have HK1 := Lib.hid k1
              have HK2 := Lib.hid k2
              have HAL := Lib.hid al
              have HBL := Lib.hid bl
              clear ac bc h1 h2 r1 r2 hl2 al bl hPe hQe k1 k2 hue hq0
              go_wp2_with fail
              have HK := Lib.hid (show ∀ x', Below wr.heap.size wr x' → (fun w' => w'.cell? ⟨w.heap.size + 1, 1, none⟩ = some (.int .i64 1) ∧ w'.cell? ⟨ad.block, ad.off + 2, none⟩ = some (.int .u64 T) ∧ w'.cell? ⟨ae.block, ae.off + 2, none⟩ = some (.int .u64 E) ∧ Below wr.heap.size wr w') x' from fun x' hx => by
                obtain ⟨f0, f1, f2, f3, f4, f5, f6⟩ := (BF.out.after hx).cells
                exact ⟨f1, (hx.cell (p := ⟨ad.block, ad.off + 2, none⟩) HAL.out).trans HK1.out, (hx.cell (p := ⟨ae.block, ae.off + 2, none⟩) HBL.out).trans HK2.out, hx⟩)
              have hHeld0 := HK.out _ (Below.refl _ _)
              have ZC := Lib.hid (Below.refl wr.heap.size wr).drew
              refine wp_region_held_drew (S := fun w' => w'.cell? ⟨w.heap.size + 1, 1, none⟩ = some (.int .i64 1) ∧ w'.cell? ⟨ad.block, ad.off + 2, none⟩ = some (.int .u64 T) ∧ w'.cell? ⟨ae.block, ae.off + 2, none⟩ = some (.int .u64 E) ∧ Below wr.heap.size wr w') (by kernel_rfl) (hd_drew HK.out (fun _ h => h.2.2.2) hHeld0) (fun hHeld => ?_)
              refine wpAnyH_take (i := 0) (oi := { dst := some 78, op := Go.Op.move (Go.Operand.tmp 10), type := 3, pos := "more.go:37", after := #[], guard := none }) (v := ?vza1) rfl (by kernel_rfl) (by kernel_rfl) (by kernel_rfl) (fun _ _ _ h => h) (Or.inl ⟨by rfl, ?yza1⟩) (by assumption) ?rza1
              case yza1 => (intro w hSw; (try dsimp only at hSw); go_simp; (try with_reducible rfl))
              (try simp only [Act.put, List.setIfInBounds_toArray, List.set_cons_zero, List.set_cons_succ])
              refine wpAnyH_take (i := 1) (oi := { dst := some 79, op := Go.Op.binOp Go.BinOp.eql 3 (Go.Operand.tmp 78) (Go.Operand.const (Go.Value.int Go.IntKind.i64 0)) 3, type := 4, pos := "more.go:37", after := #[{ on := 0, ground := Go.Ground.data }], guard := none }) (v := ?vza2) rfl (by kernel_rfl) (by kernel_rfl) (by kernel_rfl) (fun _ _ _ h => h) (Or.inl ⟨by rfl, ?yza2⟩) (by assumption) ?rza2
              case yza2 => (intro w hSw; (try dsimp only at hSw); go_simp; (try with_reducible rfl))
              (try simp only [Act.put, List.setIfInBounds_toArray, List.set_cons_zero, List.set_cons_succ])
              refine wpAnyH_take (i := 2) (oi := { dst := some 80, op := Go.Op.move (Go.Operand.tmp 79), type := 4, pos := "more.go:37", after := #[{ on := 1, ground := Go.Ground.data }], guard := none }) (v := ?vza3) rfl (by kernel_rfl) (by kernel_rfl) (by kernel_rfl) (fun _ _ _ h => h) (Or.inl ⟨by rfl, ?yza3⟩) (by assumption) ?rza3
              case yza3 => (intro w hSw; (try dsimp only at hSw); go_simp; (try with_reducible rfl))
              (try simp only [Act.put, List.setIfInBounds_toArray, List.set_cons_zero, List.set_cons_succ])
              refine wpAnyH_take (i := 3) (oi := { dst := some 81, op := Go.Op.move (Go.Operand.tmp 10), type := 3, pos := "more.go:37", after := #[{ on := 2, ground := Go.Ground.guard }], guard := some (2, false) }) (v := ?vza4) rfl (by kernel_rfl) (by kernel_rfl) (by kernel_rfl) (fun _ _ _ h => h) (Or.inl ⟨by rfl, ?yza4⟩) (by assumption) ?rza4
              case yza4 => (intro w hSw; (try dsimp only at hSw); go_simp; (try with_reducible rfl))
              (try simp only [Act.put, List.setIfInBounds_toArray, List.set_cons_zero, List.set_cons_succ])
              refine wpAnyH_take (i := 4) (oi := { dst := some 82, op := Go.Op.binOp Go.BinOp.eql 3 (Go.Operand.tmp 81) (Go.Operand.const (Go.Value.int Go.IntKind.i64 1)) 3, type := 4, pos := "more.go:37", after := #[{ on := 3, ground := Go.Ground.data }, { on := 2, ground := Go.Ground.guard }], guard := some (2, false) }) (v := ?vza5) rfl (by kernel_rfl) (by kernel_rfl) (by kernel_rfl) (fun _ _ _ h => h) (Or.inl ⟨by rfl, ?yza5⟩) (by assumption) ?rza5
              case yza5 => (intro w hSw; (try dsimp only at hSw); go_simp; (try with_reducible rfl))
              (try simp only [Act.put, List.setIfInBounds_toArray, List.set_cons_zero, List.set_cons_succ])
              refine wpAnyH_take (i := 5) (oi := { dst := some 83, op := Go.Op.move (Go.Operand.tmp 82), type := 4, pos := "more.go:37", after := #[{ on := 4, ground := Go.Ground.data }, { on := 2, ground := Go.Ground.chain }, { on := 2, ground := Go.Ground.guard }], guard := some (2, false) }) (v := ?vza6) rfl (by kernel_rfl) (by kernel_rfl) (by kernel_rfl) (fun _ _ _ h => h) (Or.inl ⟨by rfl, ?yza6⟩) (by assumption) ?rza6
              case yza6 => (intro w hSw; (try dsimp only at hSw); go_simp; (try with_reducible rfl))
              (try simp only [Act.put, List.setIfInBounds_toArray, List.set_cons_zero, List.set_cons_succ])
              refine wpAnyH_take (i := 6) (oi := { dst := some 84, op := Go.Op.fieldAddr 29 (Go.Operand.tmp 5) 1, type := 0, pos := "more.go:37", after := #[{ on := 5, ground := Go.Ground.guard }], guard := some (5, true) }) (v := ?vza7) rfl (by kernel_rfl) (by kernel_rfl) (by kernel_rfl) (fun _ _ _ h => h) (Or.inl ⟨by rfl, ?yza7⟩) (by assumption) ?rza7
              case yza7 => (intro w hSw; (try dsimp only at hSw); go_simp; (try with_reducible rfl))
              (try simp only [Act.put, List.setIfInBounds_toArray, List.set_cons_zero, List.set_cons_succ])
              refine wpAnyH_take (i := 7) (oi := { dst := some 85, op := Go.Op.load 3 (Go.Operand.tmp 84), type := 3, pos := "more.go:37", after := #[{ on := 6, ground := Go.Ground.data }, { on := 5, ground := Go.Ground.guard }], guard := some (5, true) }) (v := ?vza8) rfl (by kernel_rfl) (by kernel_rfl) (by kernel_rfl) (fun _ _ _ h => h) (Or.inl ⟨by rfl, ?yza8⟩) (by assumption) ?rza8
              case yza8 => (intro w hSw; (try dsimp only at hSw); go_simp; (try with_reducible rfl))
              (try simp only [Act.put, List.setIfInBounds_toArray, List.set_cons_zero, List.set_cons_succ])
              refine wpAnyH_take (i := 8) (oi := { dst := some 86, op := Go.Op.binOp Go.BinOp.eql 3 (Go.Operand.tmp 85) (Go.Operand.const (Go.Value.int Go.IntKind.i64 1)) 3, type := 4, pos := "more.go:37", after := #[{ on := 7, ground := Go.Ground.data }, { on := 5, ground := Go.Ground.guard }], guard := some (5, true) }) (v := ?vza9) rfl (by kernel_rfl) (by kernel_rfl) (by kernel_rfl) (fun _ _ _ h => h) (Or.inl ⟨by rfl, ?yza9⟩) (by assumption) ?rza9
              case yza9 => (intro w hSw; (try dsimp only at hSw); go_simp; (try with_reducible rfl))
              (try simp only [Act.put, List.setIfInBounds_toArray, List.set_cons_zero, List.set_cons_succ])
              refine wpAnyH_take (i := 9) (oi := { dst := some 87, op := Go.Op.move (Go.Operand.tmp 86), type := 4, pos := "more.go:37", after := #[{ on := 8, ground := Go.Ground.data }, { on := 5, ground := Go.Ground.chain }, { on := 5, ground := Go.Ground.guard }], guard := some (5, true) }) (v := ?vza10) rfl (by kernel_rfl) (by kernel_rfl) (by kernel_rfl) (fun _ _ _ h => h) (Or.inl ⟨by rfl, ?yza10⟩) (by assumption) ?rza10
              case yza10 => (intro w hSw; (try dsimp only at hSw); go_simp; (try with_reducible rfl))
              (try simp only [Act.put, List.setIfInBounds_toArray, List.set_cons_zero, List.set_cons_succ])
              refine wpAnyH_take (i := 10) (oi := { dst := some 88, op := Go.Op.move (Go.Operand.tmp 11), type := 3, pos := "more.go:37", after := #[{ on := 9, ground := Go.Ground.guard }], guard := some (9, true) }) (v := ?vza11) rfl (by kernel_rfl) (by kernel_rfl) (by kernel_rfl) (fun _ _ _ h => h) (Or.inl ⟨by rfl, ?yza11⟩) (by assumption) ?rza11
              case yza11 => (intro w hSw; (try dsimp only at hSw); go_simp; (try with_reducible rfl))
              (try simp only [Act.put, List.setIfInBounds_toArray, List.set_cons_zero, List.set_cons_succ])
              refine wpAnyH_take (i := 11) (oi := { dst := some 89, op := Go.Op.binOp Go.BinOp.eql 3 (Go.Operand.tmp 88) (Go.Operand.const (Go.Value.int Go.IntKind.i64 2)) 3, type := 4, pos := "more.go:37", after := #[{ on := 10, ground := Go.Ground.data }, { on := 9, ground := Go.Ground.guard }], guard := some (9, true) }) (v := ?vza12) rfl (by kernel_rfl) (by kernel_rfl) (by kernel_rfl) (fun _ _ _ h => h) (Or.inl ⟨by rfl, ?yza12⟩) (by assumption) ?rza12
              case yza12 => (intro w hSw; (try dsimp only at hSw); go_simp; (try with_reducible rfl))
              (try simp only [Act.put, List.setIfInBounds_toArray, List.set_cons_zero, List.set_cons_succ])
              refine wpAnyH_take (i := 12) (oi := { dst := some 90, op := Go.Op.pick (Go.Operand.tmp 87) (Go.Operand.tmp 89) (Go.Operand.const (Go.Value.bool false)), type := 4, pos := "more.go:37", after := #[{ on := 9, ground := Go.Ground.data }, { on := 11, ground := Go.Ground.data }, { on := 5, ground := Go.Ground.guard }], guard := some (5, true) }) (v := ?vza13) rfl (by kernel_rfl) (by kernel_rfl) (by kernel_rfl) (fun _ _ _ h => h) (Or.inl ⟨by rfl, ?yza13⟩) (by assumption) ?rza13
              case yza13 => (intro w hSw; (try dsimp only at hSw); go_simp; (try with_reducible rfl))
              (try simp only [Act.put, List.setIfInBounds_toArray, List.set_cons_zero, List.set_cons_succ])
              refine wpAnyH_take (i := 13) (oi := { dst := some 91, op := Go.Op.move (Go.Operand.tmp 90), type := 4, pos := "more.go:37", after := #[{ on := 12, ground := Go.Ground.data }, { on := 9, ground := Go.Ground.chain }, { on := 5, ground := Go.Ground.guard }], guard := some (5, true) }) (v := ?vza14) rfl (by kernel_rfl) (by kernel_rfl) (by kernel_rfl) (fun _ _ _ h => h) (Or.inl ⟨by rfl, ?yza14⟩) (by assumption) ?rza14
              case yza14 => (intro w hSw; (try dsimp only at hSw); go_simp; (try with_reducible rfl))
              (try simp only [Act.put, List.setIfInBounds_toArray, List.set_cons_zero, List.set_cons_succ])
              refine wpAnyH_take (i := 14) (oi := { dst := some 92, op := Go.Op.move (Go.Operand.tmp 8), type := 25, pos := "more.go:37", after := #[{ on := 13, ground := Go.Ground.guard }], guard := some (13, true) }) (v := ?vza15) rfl (by kernel_rfl) (by kernel_rfl) (by kernel_rfl) (fun _ _ _ h => h) (Or.inl ⟨by rfl, ?yza15⟩) (by assumption) ?rza15
              case yza15 => (intro w hSw; (try dsimp only at hSw); go_simp; (try with_reducible rfl))
              (try simp only [Act.put, List.setIfInBounds_toArray, List.set_cons_zero, List.set_cons_succ])
              refine wpAnyH_take (i := 15) (oi := { dst := some 93, op := Go.Op.move (Go.Operand.tmp 11), type := 3, pos := "more.go:37", after := #[{ on := 13, ground := Go.Ground.guard }], guard := some (13, true) }) (v := ?vza16) rfl (by kernel_rfl) (by kernel_rfl) (by kernel_rfl) (fun _ _ _ h => h) (Or.inl ⟨by rfl, ?yza16⟩) (by assumption) ?rza16
              case yza16 => (intro w hSw; (try dsimp only at hSw); go_simp; (try with_reducible rfl))
              (try simp only [Act.put, List.setIfInBounds_toArray, List.set_cons_zero, List.set_cons_succ])
              refine wpAnyH_take (i := 16) (oi := { dst := some 94, op := Go.Op.indexAddr 25 (Go.Operand.tmp 92) (Go.Operand.tmp 93), type := 0, pos := "more.go:37", after := #[{ on := 14, ground := Go.Ground.data }, { on := 15, ground := Go.Ground.data }, { on := 13, ground := Go.Ground.guard }], guard := some (13, true) }) (v := ?vza17) rfl (by kernel_rfl) (by kernel_rfl) (by kernel_rfl) (fun _ _ _ h => h) (Or.inl ⟨by rfl, ?yza17⟩) (by assumption) ?rza17
              case yza17 => (intro w hSw; (try dsimp only at hSw); go_simp; (try with_reducible rfl))
              (try simp only [Act.put, List.setIfInBounds_toArray, List.set_cons_zero, List.set_cons_succ])
              refine wpAnyH_take (i := 17) (oi := { dst := some 95, op := Go.Op.load 27 (Go.Operand.tmp 94), type := 27, pos := "more.go:37", after := #[{ on := 16, ground := Go.Ground.data }, { on := 13, ground := Go.Ground.guard }], guard := some (13, true) }) (v := ?vza18) rfl (by kernel_rfl) (by kernel_rfl) (by kernel_rfl) (fun _ _ _ h => h) (Or.inl ⟨by rfl, ?yza18⟩) (by assumption) ?rza18
              case yza18 => (intro w hSw; (try dsimp only at hSw); go_simp; (try with_reducible rfl))
              (try simp only [Act.put, List.setIfInBounds_toArray, List.set_cons_zero, List.set_cons_succ])
              refine wpAnyH_take (i := 19) (oi := { dst := some 97, op := Go.Op.move (Go.Operand.tmp 1), type := 25, pos := "more.go:37", after := #[{ on := 13, ground := Go.Ground.guard }], guard := some (13, true) }) (v := ?vza19) rfl (by kernel_rfl) (by kernel_rfl) (by kernel_rfl) (fun _ _ _ h => h) (Or.inl ⟨by rfl, ?yza19⟩) (by assumption) ?rza19
              case yza19 => (intro w hSw; (try dsimp only at hSw); go_simp; (try with_reducible rfl))
              (try simp only [Act.put, List.setIfInBounds_toArray, List.set_cons_zero, List.set_cons_succ])
              refine wpAnyH_take (i := 20) (oi := { dst := some 98, op := Go.Op.move (Go.Operand.tmp 11), type := 3, pos := "more.go:37", after := #[{ on := 13, ground := Go.Ground.guard }], guard := some (13, true) }) (v := ?vza20) rfl (by kernel_rfl) (by kernel_rfl) (by kernel_rfl) (fun _ _ _ h => h) (Or.inl ⟨by rfl, ?yza20⟩) (by assumption) ?rza20
              case yza20 => (intro w hSw; (try dsimp only at hSw); go_simp; (try with_reducible rfl))
              (try simp only [Act.put, List.setIfInBounds_toArray, List.set_cons_zero, List.set_cons_succ])
              refine wpAnyH_take (i := 21) (oi := { dst := some 99, op := Go.Op.indexAddr 25 (Go.Operand.tmp 97) (Go.Operand.tmp 98), type := 0, pos := "more.go:37", after := #[{ on := 19, ground := Go.Ground.data }, { on := 20, ground := Go.Ground.data }, { on := 13, ground := Go.Ground.guard }], guard := some (13, true) }) (v := ?vza21) rfl (by kernel_rfl) (by kernel_rfl) (by kernel_rfl) (fun _ _ _ h => h) (Or.inl ⟨by rfl, ?yza21⟩) (by assumption) ?rza21
              case yza21 => (intro w hSw; (try dsimp only at hSw); go_simp; (try with_reducible rfl))
              (try simp only [Act.put, List.setIfInBounds_toArray, List.set_cons_zero, List.set_cons_succ])
              refine wpAnyH_take (i := 22) (oi := { dst := some 100, op := Go.Op.load 27 (Go.Operand.tmp 99), type := 27, pos := "more.go:37", after := #[{ on := 21, ground := Go.Ground.data }, { on := 13, ground := Go.Ground.guard }], guard := some (13, true) }) (v := ?vza22) rfl (by kernel_rfl) (by kernel_rfl) (by kernel_rfl) (fun _ _ _ h => h) (Or.inl ⟨by rfl, ?yza22⟩) (by assumption) ?rza22
              case yza22 => (intro w hSw; (try dsimp only at hSw); go_simp; (try with_reducible rfl))
              (try simp only [Act.put, List.setIfInBounds_toArray, List.set_cons_zero, List.set_cons_succ])
              refine wpAnyH_ready (rs := [18]) (by kernel_rfl) (by simp) ?_
              refine (AllReadyH.cons (o := { dst := some 96, op := Go.Op.call { callee := Go.Callee.value (Go.Operand.func 17), args := #[Go.Operand.tmp 95], argTypes := #[27] }, type := 27, pos := "more.go:37", after := #[{ on := 17, ground := Go.Ground.data }, { on := 13, ground := Go.Ground.chain }, { on := 13, ground := Go.Ground.guard }], guard := some (13, true) }) rfl (fun K hK => ?_) AllReadyH.nil)
              go_simp
              refine (Tells.of (epoch_any T _).tells (v' := .int .u64 P) (by rw [HT.out])).mono ?_
              rintro e wz ⟨rfl, zb⟩
              go_wp2_with fail
              replace ZC := Lib.hid (keep_call (w2 := wr) zb ZC.out)
              clear zb
              refine hK.out _ _ (HK.out _ ZC.out) (fun hHeld2 => ?_)
              clear hK K hHeld
              have hHeld := hHeld2
              clear hHeld2
              (try simp only [Act.put, List.setIfInBounds_toArray, List.set_cons_zero, List.set_cons_succ])
              refine wpAnyH_ready (rs := [23]) (by kernel_rfl) (by simp) ?_
              refine (AllReadyH.cons (o := { dst := some 101, op := Go.Op.call { callee := Go.Callee.value (Go.Operand.func 17), args := #[Go.Operand.tmp 100], argTypes := #[27] }, type := 27, pos := "more.go:37", after := #[{ on := 22, ground := Go.Ground.data }, { on := 18, ground := Go.Ground.chain }, { on := 13, ground := Go.Ground.guard }], guard := some (13, true) }) rfl (fun K hK => ?_) AllReadyH.nil)
              go_simp
              refine (Tells.of (epoch_any E _).tells (v' := .int .u64 Q) (by rw [HQE.out])).mono ?_
              rintro e wz ⟨rfl, zb⟩
              go_wp2_with fail
              replace ZC := Lib.hid (keep_call (w2 := wr) zb ZC.out)
              clear zb
              refine hK.out _ _ (HK.out _ ZC.out) (fun hHeld2 => ?_)
              clear hK K hHeld
              have hHeld := hHeld2
              clear hHeld2
              (try simp only [Act.put, List.setIfInBounds_toArray, List.set_cons_zero, List.set_cons_succ])
              refine wpAnyH_take (i := 24) (oi := { dst := some 102, op := Go.Op.binOp Go.BinOp.add 27 (Go.Operand.tmp 101) (Go.Operand.const (Go.Value.int Go.IntKind.u64 1)) 27, type := 27, pos := "more.go:37", after := #[{ on := 23, ground := Go.Ground.data }, { on := 13, ground := Go.Ground.guard }], guard := some (13, true) }) (v := ?vza23) rfl (by kernel_rfl) (by kernel_rfl) (by kernel_rfl) (fun _ _ _ h => h) (Or.inl ⟨by rfl, ?yza23⟩) (by assumption) ?rza23
              case yza23 => (intro w hSw; (try dsimp only at hSw); go_simp; (try with_reducible rfl))
              (try simp only [Act.put, List.setIfInBounds_toArray, List.set_cons_zero, List.set_cons_succ])
              refine wpAnyH_take (i := 25) (oi := { dst := some 103, op := Go.Op.binOp Go.BinOp.rem 27 (Go.Operand.tmp 102) (Go.Operand.const (Go.Value.int Go.IntKind.u64 281474976710656)) 27, type := 27, pos := "more.go:37", after := #[{ on := 24, ground := Go.Ground.data }, { on := 13, ground := Go.Ground.guard }], guard := some (13, true) }) (v := ?vza24) rfl (by kernel_rfl) (by kernel_rfl) (by kernel_rfl) (fun _ _ _ h => h) (Or.inl ⟨by rfl, ?yza24⟩) (by assumption) ?rza24
              case yza24 => (intro w hSw; (try dsimp only at hSw); go_simp; (try with_reducible rfl))
              (try simp only [Act.put, List.setIfInBounds_toArray, List.set_cons_zero, List.set_cons_succ])
              refine wpAnyH_take (i := 26) (oi := { dst := some 104, op := Go.Op.binOp Go.BinOp.eql 27 (Go.Operand.tmp 96) (Go.Operand.tmp 103) 27, type := 4, pos := "more.go:37", after := #[{ on := 18, ground := Go.Ground.data }, { on := 25, ground := Go.Ground.data }, { on := 13, ground := Go.Ground.guard }], guard := some (13, true) }) (v := ?vza25) rfl (by kernel_rfl) (by kernel_rfl) (by kernel_rfl) (fun _ _ _ h => h) (Or.inl ⟨by rfl, ?yza25⟩) (by assumption) ?rza25
              case yza25 => (intro w hSw; (try dsimp only at hSw); go_simp; (try with_reducible rfl))
              (try simp only [Act.put, List.setIfInBounds_toArray, List.set_cons_zero, List.set_cons_succ])
              refine wpAnyH_take (i := 27) (oi := { dst := some 105, op := Go.Op.pick (Go.Operand.tmp 91) (Go.Operand.tmp 104) (Go.Operand.const (Go.Value.bool false)), type := 4, pos := "more.go:37", after := #[{ on := 13, ground := Go.Ground.data }, { on := 26, ground := Go.Ground.data }, { on := 5, ground := Go.Ground.guard }], guard := some (5, true) }) (v := ?vza26) rfl (by kernel_rfl) (by kernel_rfl) (by kernel_rfl) (fun _ _ _ h => h) (Or.inl ⟨by rfl, ?yza26⟩) (by assumption) ?rza26
              case yza26 => (intro w hSw; (try dsimp only at hSw); go_simp; (try with_reducible rfl))
              (try simp only [Act.put, List.setIfInBounds_toArray, List.set_cons_zero, List.set_cons_succ])
              refine wpAnyH_take (i := 28) (oi := { dst := some 106, op := Go.Op.move (Go.Operand.tmp 105), type := 4, pos := "more.go:37", after := #[{ on := 27, ground := Go.Ground.data }, { on := 23, ground := Go.Ground.chain }, { on := 5, ground := Go.Ground.guard }], guard := some (5, true) }) (v := ?vza27) rfl (by kernel_rfl) (by kernel_rfl) (by kernel_rfl) (fun _ _ _ h => h) (Or.inl ⟨by rfl, ?yza27⟩) (by assumption) ?rza27
              case yza27 => (intro w hSw; (try dsimp only at hSw); go_simp; (try with_reducible rfl))
              (try simp only [Act.put, List.setIfInBounds_toArray, List.set_cons_zero, List.set_cons_succ])
              refine wpAnyH_take (i := 29) (oi := { dst := some 107, op := Go.Op.fieldAddr 29 (Go.Operand.tmp 5) 1, type := 0, pos := "more.go:37", after := #[{ on := 28, ground := Go.Ground.guard }], guard := some (28, false) }) (v := undef) rfl (by kernel_rfl) (by kernel_rfl) (by kernel_rfl) (fun _ _ _ h => h) (Or.inr ⟨by rfl, rfl⟩) (by assumption) ?_
              (try simp only [Act.put, List.setIfInBounds_toArray, List.set_cons_zero, List.set_cons_succ])
              refine wpAnyH_take (i := 30) (oi := { dst := some 108, op := Go.Op.load 3 (Go.Operand.tmp 107), type := 3, pos := "more.go:37", after := #[{ on := 29, ground := Go.Ground.data }, { on := 28, ground := Go.Ground.guard }], guard := some (28, false) }) (v := undef) rfl (by kernel_rfl) (by kernel_rfl) (by kernel_rfl) (fun _ _ _ h => h) (Or.inr ⟨by rfl, rfl⟩) (by assumption) ?_
              (try simp only [Act.put, List.setIfInBounds_toArray, List.set_cons_zero, List.set_cons_succ])
              refine wpAnyH_take (i := 31) (oi := { dst := some 109, op := Go.Op.binOp Go.BinOp.eql 3 (Go.Operand.tmp 108) (Go.Operand.const (Go.Value.int Go.IntKind.i64 2)) 3, type := 4, pos := "more.go:37", after := #[{ on := 30, ground := Go.Ground.data }, { on := 28, ground := Go.Ground.guard }], guard := some (28, false) }) (v := undef) rfl (by kernel_rfl) (by kernel_rfl) (by kernel_rfl) (fun _ _ _ h => h) (Or.inr ⟨by rfl, rfl⟩) (by assumption) ?_
              (try simp only [Act.put, List.setIfInBounds_toArray, List.set_cons_zero, List.set_cons_succ])
              refine wpAnyH_take (i := 32) (oi := { dst := some 110, op := Go.Op.move (Go.Operand.tmp 109), type := 4, pos := "more.go:37", after := #[{ on := 31, ground := Go.Ground.data }, { on := 28, ground := Go.Ground.chain }, { on := 28, ground := Go.Ground.guard }], guard := some (28, false) }) (v := undef) rfl (by kernel_rfl) (by kernel_rfl) (by kernel_rfl) (fun _ _ _ h => h) (Or.inr ⟨by rfl, rfl⟩) (by assumption) ?_
              (try simp only [Act.put, List.setIfInBounds_toArray, List.set_cons_zero, List.set_cons_succ])
              refine wpAnyH_take (i := 33) (oi := { dst := some 111, op := Go.Op.move (Go.Operand.tmp 13), type := 4, pos := "more.go:37", after := #[{ on := 32, ground := Go.Ground.guard }], guard := some (32, true) }) (v := undef) rfl (by kernel_rfl) (by kernel_rfl) (by kernel_rfl) (fun _ _ _ h => h) (Or.inr ⟨by rfl, rfl⟩) (by assumption) ?_
              (try simp only [Act.put, List.setIfInBounds_toArray, List.set_cons_zero, List.set_cons_succ])
              refine wpAnyH_take (i := 34) (oi := { dst := some 112, op := Go.Op.pick (Go.Operand.tmp 110) (Go.Operand.tmp 111) (Go.Operand.const (Go.Value.bool false)), type := 4, pos := "more.go:37", after := #[{ on := 32, ground := Go.Ground.data }, { on := 33, ground := Go.Ground.data }, { on := 28, ground := Go.Ground.guard }], guard := some (28, false) }) (v := undef) rfl (by kernel_rfl) (by kernel_rfl) (by kernel_rfl) (fun _ _ _ h => h) (Or.inr ⟨by rfl, rfl⟩) (by assumption) ?_
              (try simp only [Act.put, List.setIfInBounds_toArray, List.set_cons_zero, List.set_cons_succ])
              refine wpAnyH_take (i := 35) (oi := { dst := some 113, op := Go.Op.move (Go.Operand.tmp 112), type := 4, pos := "more.go:37", after := #[{ on := 34, ground := Go.Ground.data }, { on := 32, ground := Go.Ground.chain }, { on := 28, ground := Go.Ground.guard }], guard := some (28, false) }) (v := undef) rfl (by kernel_rfl) (by kernel_rfl) (by kernel_rfl) (fun _ _ _ h => h) (Or.inr ⟨by rfl, rfl⟩) (by assumption) ?_
              (try simp only [Act.put, List.setIfInBounds_toArray, List.set_cons_zero, List.set_cons_succ])
              refine wpAnyH_take (i := 36) (oi := { dst := some 114, op := Go.Op.move (Go.Operand.tmp 8), type := 25, pos := "more.go:37", after := #[{ on := 35, ground := Go.Ground.guard }], guard := some (35, true) }) (v := undef) rfl (by kernel_rfl) (by kernel_rfl) (by kernel_rfl) (fun _ _ _ h => h) (Or.inr ⟨by rfl, rfl⟩) (by assumption) ?_
              (try simp only [Act.put, List.setIfInBounds_toArray, List.set_cons_zero, List.set_cons_succ])
              refine wpAnyH_take (i := 37) (oi := { dst := some 115, op := Go.Op.move (Go.Operand.tmp 11), type := 3, pos := "more.go:37", after := #[{ on := 35, ground := Go.Ground.guard }], guard := some (35, true) }) (v := undef) rfl (by kernel_rfl) (by kernel_rfl) (by kernel_rfl) (fun _ _ _ h => h) (Or.inr ⟨by rfl, rfl⟩) (by assumption) ?_
              (try simp only [Act.put, List.setIfInBounds_toArray, List.set_cons_zero, List.set_cons_succ])
              refine wpAnyH_take (i := 38) (oi := { dst := some 116, op := Go.Op.indexAddr 25 (Go.Operand.tmp 114) (Go.Operand.tmp 115), type := 0, pos := "more.go:37", after := #[{ on := 36, ground := Go.Ground.data }, { on := 37, ground := Go.Ground.data }, { on := 35, ground := Go.Ground.guard }], guard := some (35, true) }) (v := undef) rfl (by kernel_rfl) (by kernel_rfl) (by kernel_rfl) (fun _ _ _ h => h) (Or.inr ⟨by rfl, rfl⟩) (by assumption) ?_
              (try simp only [Act.put, List.setIfInBounds_toArray, List.set_cons_zero, List.set_cons_succ])
              refine wpAnyH_take (i := 39) (oi := { dst := some 117, op := Go.Op.load 27 (Go.Operand.tmp 116), type := 27, pos := "more.go:37", after := #[{ on := 38, ground := Go.Ground.data }, { on := 35, ground := Go.Ground.guard }], guard := some (35, true) }) (v := undef) rfl (by kernel_rfl) (by kernel_rfl) (by kernel_rfl) (fun _ _ _ h => h) (Or.inr ⟨by rfl, rfl⟩) (by assumption) ?_
              (try simp only [Act.put, List.setIfInBounds_toArray, List.set_cons_zero, List.set_cons_succ])
              refine wpAnyH_take (i := 40) (oi := { dst := some 118, op := Go.Op.binOp Go.BinOp.eql 27 (Go.Operand.tmp 117) (Go.Operand.const (Go.Value.int Go.IntKind.u64 1)) 27, type := 4, pos := "more.go:37", after := #[{ on := 39, ground := Go.Ground.data }, { on := 35, ground := Go.Ground.guard }], guard := some (35, true) }) (v := undef) rfl (by kernel_rfl) (by kernel_rfl) (by kernel_rfl) (fun _ _ _ h => h) (Or.inr ⟨by rfl, rfl⟩) (by assumption) ?_
              (try simp only [Act.put, List.setIfInBounds_toArray, List.set_cons_zero, List.set_cons_succ])
              refine wpAnyH_take (i := 41) (oi := { dst := some 119, op := Go.Op.pick (Go.Operand.tmp 113) (Go.Operand.tmp 118) (Go.Operand.const (Go.Value.bool false)), type := 4, pos := "more.go:37", after := #[{ on := 35, ground := Go.Ground.data }, { on := 40, ground := Go.Ground.data }, { on := 28, ground := Go.Ground.guard }], guard := some (28, false) }) (v := undef) rfl (by kernel_rfl) (by kernel_rfl) (by kernel_rfl) (fun _ _ _ h => h) (Or.inr ⟨by rfl, rfl⟩) (by assumption) ?_
              (try simp only [Act.put, List.setIfInBounds_toArray, List.set_cons_zero, List.set_cons_succ])
              refine wpAnyH_take (i := 42) (oi := { dst := some 120, op := Go.Op.pick (Go.Operand.tmp 106) (Go.Operand.const (Go.Value.bool true)) (Go.Operand.tmp 119), type := 4, pos := "more.go:37", after := #[{ on := 28, ground := Go.Ground.data }, { on := 41, ground := Go.Ground.data }, { on := 5, ground := Go.Ground.guard }], guard := some (5, true) }) (v := ?vza28) rfl (by kernel_rfl) (by kernel_rfl) (by kernel_rfl) (fun _ _ _ h => h) (Or.inl ⟨by rfl, ?yza28⟩) (by assumption) ?rza28
              case yza28 => (intro w hSw; (try dsimp only at hSw); go_simp; (try with_reducible rfl))
              (try simp only [Act.put, List.setIfInBounds_toArray, List.set_cons_zero, List.set_cons_succ])
              refine wpAnyH_take (i := 43) (oi := { dst := some 121, op := Go.Op.pick (Go.Operand.tmp 83) (Go.Operand.tmp 120) (Go.Operand.const (Go.Value.bool false)), type := 4, pos := "more.go:37", after := #[{ on := 5, ground := Go.Ground.data }, { on := 42, ground := Go.Ground.data }, { on := 2, ground := Go.Ground.guard }], guard := some (2, false) }) (v := ?vza29) rfl (by kernel_rfl) (by kernel_rfl) (by kernel_rfl) (fun _ _ _ h => h) (Or.inl ⟨by rfl, ?yza29⟩) (by assumption) ?rza29
              case yza29 => (intro w hSw; (try dsimp only at hSw); go_simp; (try with_reducible rfl))
              (try simp only [Act.put, List.setIfInBounds_toArray, List.set_cons_zero, List.set_cons_succ])
              refine wpAnyH_take (i := 44) (oi := { dst := some 122, op := Go.Op.pick (Go.Operand.tmp 80) (Go.Operand.const (Go.Value.bool true)) (Go.Operand.tmp 121), type := 4, pos := "more.go:37", after := #[{ on := 2, ground := Go.Ground.data }, { on := 43, ground := Go.Ground.data }], guard := none }) (v := ?vza30) rfl (by kernel_rfl) (by kernel_rfl) (by kernel_rfl) (fun _ _ _ h => h) (Or.inl ⟨by rfl, ?yza30⟩) (by assumption) ?rza30
              case yza30 => (intro w hSw; (try dsimp only at hSw); go_simp; (try with_reducible rfl))
              (try simp only [Act.put, List.setIfInBounds_toArray, List.set_cons_zero, List.set_cons_succ])
              refine wpAnyH_take (i := 45) (oi := { dst := some 6, op := Go.Op.assign (Go.Operand.tmp 122), type := 4, pos := "more.go:37", after := #[{ on := 44, ground := Go.Ground.data }, { on := 35, ground := Go.Ground.chain }, { on := 0, ground := Go.Ground.phase }, { on := 1, ground := Go.Ground.phase }, { on := 2, ground := Go.Ground.phase }, { on := 3, ground := Go.Ground.phase }, { on := 4, ground := Go.Ground.phase }, { on := 5, ground := Go.Ground.phase }, { on := 6, ground := Go.Ground.phase }, { on := 7, ground := Go.Ground.phase }, { on := 8, ground := Go.Ground.phase }, { on := 9, ground := Go.Ground.phase }, { on := 10, ground := Go.Ground.phase }, { on := 11, ground := Go.Ground.phase }, { on := 12, ground := Go.Ground.phase }, { on := 13, ground := Go.Ground.phase }, { on := 14, ground := Go.Ground.phase }, { on := 15, ground := Go.Ground.phase }, { on := 16, ground := Go.Ground.phase }, { on := 17, ground := Go.Ground.phase }, { on := 18, ground := Go.Ground.phase }, { on := 19, ground := Go.Ground.phase }, { on := 20, ground := Go.Ground.phase }, { on := 21, ground := Go.Ground.phase }, { on := 22, ground := Go.Ground.phase }, { on := 23, ground := Go.Ground.phase }, { on := 24, ground := Go.Ground.phase }, { on := 25, ground := Go.Ground.phase }, { on := 26, ground := Go.Ground.phase }, { on := 27, ground := Go.Ground.phase }, { on := 28, ground := Go.Ground.phase }, { on := 29, ground := Go.Ground.phase }, { on := 30, ground := Go.Ground.phase }, { on := 31, ground := Go.Ground.phase }, { on := 32, ground := Go.Ground.phase }, { on := 33, ground := Go.Ground.phase }, { on := 34, ground := Go.Ground.phase }, { on := 35, ground := Go.Ground.phase }, { on := 36, ground := Go.Ground.phase }, { on := 37, ground := Go.Ground.phase }, { on := 38, ground := Go.Ground.phase }, { on := 39, ground := Go.Ground.phase }, { on := 40, ground := Go.Ground.phase }, { on := 41, ground := Go.Ground.phase }, { on := 42, ground := Go.Ground.phase }, { on := 43, ground := Go.Ground.phase }, { on := 44, ground := Go.Ground.phase }], guard := none }) (v := ?vza31) rfl (by kernel_rfl) (by kernel_rfl) (by kernel_rfl) (fun _ _ _ h => h) (Or.inl ⟨by rfl, ?yza31⟩) (by assumption) ?rza31
              case yza31 => (intro w hSw; (try dsimp only at hSw); go_simp; (try with_reducible rfl))
              (try simp only [Act.put, List.setIfInBounds_toArray, List.set_cons_zero, List.set_cons_succ])
              refine wpAnyH_done (by kernel_rfl) ?_ _
              go_wp2
              go_ret
              exact ⟨rfl, Z.out.trans (ZC.out.mono Z.out.size)⟩
            · obtain ⟨vv, hv1, hv2⟩ := hv
              have hv8 := okw_who hv1
              obtain ⟨vn, rfl⟩ := Int.eq_ofNat_of_zero_le hv8.1
              have hpk8 : pkd W D J S a 8 = true := pkd_of hv2 8 (by omega)
              obtain ⟨B, rfl⟩ := Int.eq_ofNat_of_zero_le ha0
              have hBj : B < j := by omega
              have h1 : B < l'.length := by rw [HL2.out]; exact hBj
              obtain ⟨ad, rfl, al, ac⟩ := LA.out (by omega)
              have k1 := ac B _ (List.getElem?_eq_getElem h1)
              have hbl : (B : Int) < (j : Int) := by omega
              rw [at0_in (by omega) (by omega)] at hl4
              simp only [Int.toNat_natCast] at hl4
              rw [hl4] at k1
              have HAL := Lib.hid al
              have HK1 := Lib.hid k1
              clear ac h1 hl4 hBj al k1 hv1 hv2 hv8 ha0 ha1
              go_wp2_with fail
              have HK := Lib.hid (show ∀ x', Below wr.heap.size wr x' → (fun w' => w'.cell? ⟨w.heap.size + 1, 1, none⟩ = some (.int .i64 2) ∧ w'.cell? (ad.add B) = some (.int .u64 1) ∧ Below wr.heap.size wr w') x' from fun x' hx => by
                obtain ⟨f0, f1, f2, f3, f4, f5, f6⟩ := (BF.out.after hx).cells
                exact ⟨f1, (hx.cell (p := ad.add B) (by rw [block_add]; exact HAL.out)).trans HK1.out, hx⟩)
              have hHeld0 := HK.out _ (Below.refl _ _)
              have ZC := Lib.hid (Below.refl wr.heap.size wr).drew
              refine wp_region_held_drew (S := fun w' => w'.cell? ⟨w.heap.size + 1, 1, none⟩ = some (.int .i64 2) ∧ w'.cell? (ad.add B) = some (.int .u64 1) ∧ Below wr.heap.size wr w') (by kernel_rfl) (hd_drew HK.out (fun _ h => h.2.2) hHeld0) (fun hHeld => ?_)
              refine wpAnyH_take (i := 0) (oi := { dst := some 78, op := Go.Op.move (Go.Operand.tmp 10), type := 3, pos := "more.go:37", after := #[], guard := none }) (v := ?vzb1) rfl (by kernel_rfl) (by kernel_rfl) (by kernel_rfl) (fun _ _ _ h => h) (Or.inl ⟨by rfl, ?yzb1⟩) (by assumption) ?rzb1
              case yzb1 => (intro w hSw; (try dsimp only at hSw); go_simp; (try with_reducible rfl))
              (try simp only [Act.put, List.setIfInBounds_toArray, List.set_cons_zero, List.set_cons_succ])
              refine wpAnyH_take (i := 1) (oi := { dst := some 79, op := Go.Op.binOp Go.BinOp.eql 3 (Go.Operand.tmp 78) (Go.Operand.const (Go.Value.int Go.IntKind.i64 0)) 3, type := 4, pos := "more.go:37", after := #[{ on := 0, ground := Go.Ground.data }], guard := none }) (v := ?vzb2) rfl (by kernel_rfl) (by kernel_rfl) (by kernel_rfl) (fun _ _ _ h => h) (Or.inl ⟨by rfl, ?yzb2⟩) (by assumption) ?rzb2
              case yzb2 => (intro w hSw; (try dsimp only at hSw); go_simp; (try with_reducible rfl))
              (try simp only [Act.put, List.setIfInBounds_toArray, List.set_cons_zero, List.set_cons_succ])
              refine wpAnyH_take (i := 2) (oi := { dst := some 80, op := Go.Op.move (Go.Operand.tmp 79), type := 4, pos := "more.go:37", after := #[{ on := 1, ground := Go.Ground.data }], guard := none }) (v := ?vzb3) rfl (by kernel_rfl) (by kernel_rfl) (by kernel_rfl) (fun _ _ _ h => h) (Or.inl ⟨by rfl, ?yzb3⟩) (by assumption) ?rzb3
              case yzb3 => (intro w hSw; (try dsimp only at hSw); go_simp; (try with_reducible rfl))
              (try simp only [Act.put, List.setIfInBounds_toArray, List.set_cons_zero, List.set_cons_succ])
              refine wpAnyH_take (i := 3) (oi := { dst := some 81, op := Go.Op.move (Go.Operand.tmp 10), type := 3, pos := "more.go:37", after := #[{ on := 2, ground := Go.Ground.guard }], guard := some (2, false) }) (v := ?vzb4) rfl (by kernel_rfl) (by kernel_rfl) (by kernel_rfl) (fun _ _ _ h => h) (Or.inl ⟨by rfl, ?yzb4⟩) (by assumption) ?rzb4
              case yzb4 => (intro w hSw; (try dsimp only at hSw); go_simp; (try with_reducible rfl))
              (try simp only [Act.put, List.setIfInBounds_toArray, List.set_cons_zero, List.set_cons_succ])
              refine wpAnyH_take (i := 4) (oi := { dst := some 82, op := Go.Op.binOp Go.BinOp.eql 3 (Go.Operand.tmp 81) (Go.Operand.const (Go.Value.int Go.IntKind.i64 1)) 3, type := 4, pos := "more.go:37", after := #[{ on := 3, ground := Go.Ground.data }, { on := 2, ground := Go.Ground.guard }], guard := some (2, false) }) (v := ?vzb5) rfl (by kernel_rfl) (by kernel_rfl) (by kernel_rfl) (fun _ _ _ h => h) (Or.inl ⟨by rfl, ?yzb5⟩) (by assumption) ?rzb5
              case yzb5 => (intro w hSw; (try dsimp only at hSw); go_simp; (try with_reducible rfl))
              (try simp only [Act.put, List.setIfInBounds_toArray, List.set_cons_zero, List.set_cons_succ])
              refine wpAnyH_take (i := 5) (oi := { dst := some 83, op := Go.Op.move (Go.Operand.tmp 82), type := 4, pos := "more.go:37", after := #[{ on := 4, ground := Go.Ground.data }, { on := 2, ground := Go.Ground.chain }, { on := 2, ground := Go.Ground.guard }], guard := some (2, false) }) (v := ?vzb6) rfl (by kernel_rfl) (by kernel_rfl) (by kernel_rfl) (fun _ _ _ h => h) (Or.inl ⟨by rfl, ?yzb6⟩) (by assumption) ?rzb6
              case yzb6 => (intro w hSw; (try dsimp only at hSw); go_simp; (try with_reducible rfl))
              (try simp only [Act.put, List.setIfInBounds_toArray, List.set_cons_zero, List.set_cons_succ])
              refine wpAnyH_take (i := 6) (oi := { dst := some 84, op := Go.Op.fieldAddr 29 (Go.Operand.tmp 5) 1, type := 0, pos := "more.go:37", after := #[{ on := 5, ground := Go.Ground.guard }], guard := some (5, true) }) (v := ?vzb7) rfl (by kernel_rfl) (by kernel_rfl) (by kernel_rfl) (fun _ _ _ h => h) (Or.inl ⟨by rfl, ?yzb7⟩) (by assumption) ?rzb7
              case yzb7 => (intro w hSw; (try dsimp only at hSw); go_simp; (try with_reducible rfl))
              (try simp only [Act.put, List.setIfInBounds_toArray, List.set_cons_zero, List.set_cons_succ])
              refine wpAnyH_take (i := 7) (oi := { dst := some 85, op := Go.Op.load 3 (Go.Operand.tmp 84), type := 3, pos := "more.go:37", after := #[{ on := 6, ground := Go.Ground.data }, { on := 5, ground := Go.Ground.guard }], guard := some (5, true) }) (v := ?vzb8) rfl (by kernel_rfl) (by kernel_rfl) (by kernel_rfl) (fun _ _ _ h => h) (Or.inl ⟨by rfl, ?yzb8⟩) (by assumption) ?rzb8
              case yzb8 => (intro w hSw; (try dsimp only at hSw); go_simp; (try with_reducible rfl))
              (try simp only [Act.put, List.setIfInBounds_toArray, List.set_cons_zero, List.set_cons_succ])
              refine wpAnyH_take (i := 8) (oi := { dst := some 86, op := Go.Op.binOp Go.BinOp.eql 3 (Go.Operand.tmp 85) (Go.Operand.const (Go.Value.int Go.IntKind.i64 1)) 3, type := 4, pos := "more.go:37", after := #[{ on := 7, ground := Go.Ground.data }, { on := 5, ground := Go.Ground.guard }], guard := some (5, true) }) (v := ?vzb9) rfl (by kernel_rfl) (by kernel_rfl) (by kernel_rfl) (fun _ _ _ h => h) (Or.inl ⟨by rfl, ?yzb9⟩) (by assumption) ?rzb9
              case yzb9 => (intro w hSw; (try dsimp only at hSw); go_simp; (try with_reducible rfl))
              (try simp only [Act.put, List.setIfInBounds_toArray, List.set_cons_zero, List.set_cons_succ])
              refine wpAnyH_take (i := 9) (oi := { dst := some 87, op := Go.Op.move (Go.Operand.tmp 86), type := 4, pos := "more.go:37", after := #[{ on := 8, ground := Go.Ground.data }, { on := 5, ground := Go.Ground.chain }, { on := 5, ground := Go.Ground.guard }], guard := some (5, true) }) (v := ?vzb10) rfl (by kernel_rfl) (by kernel_rfl) (by kernel_rfl) (fun _ _ _ h => h) (Or.inl ⟨by rfl, ?yzb10⟩) (by assumption) ?rzb10
              case yzb10 => (intro w hSw; (try dsimp only at hSw); go_simp; (try with_reducible rfl))
              (try simp only [Act.put, List.setIfInBounds_toArray, List.set_cons_zero, List.set_cons_succ])
              refine wpAnyH_take (i := 10) (oi := { dst := some 88, op := Go.Op.move (Go.Operand.tmp 11), type := 3, pos := "more.go:37", after := #[{ on := 9, ground := Go.Ground.guard }], guard := some (9, true) }) (v := undef) rfl (by kernel_rfl) (by kernel_rfl) (by kernel_rfl) (fun _ _ _ h => h) (Or.inr ⟨by rfl, rfl⟩) (by assumption) ?_
              (try simp only [Act.put, List.setIfInBounds_toArray, List.set_cons_zero, List.set_cons_succ])
              refine wpAnyH_take (i := 11) (oi := { dst := some 89, op := Go.Op.binOp Go.BinOp.eql 3 (Go.Operand.tmp 88) (Go.Operand.const (Go.Value.int Go.IntKind.i64 2)) 3, type := 4, pos := "more.go:37", after := #[{ on := 10, ground := Go.Ground.data }, { on := 9, ground := Go.Ground.guard }], guard := some (9, true) }) (v := undef) rfl (by kernel_rfl) (by kernel_rfl) (by kernel_rfl) (fun _ _ _ h => h) (Or.inr ⟨by rfl, rfl⟩) (by assumption) ?_
              (try simp only [Act.put, List.setIfInBounds_toArray, List.set_cons_zero, List.set_cons_succ])
              refine wpAnyH_take (i := 12) (oi := { dst := some 90, op := Go.Op.pick (Go.Operand.tmp 87) (Go.Operand.tmp 89) (Go.Operand.const (Go.Value.bool false)), type := 4, pos := "more.go:37", after := #[{ on := 9, ground := Go.Ground.data }, { on := 11, ground := Go.Ground.data }, { on := 5, ground := Go.Ground.guard }], guard := some (5, true) }) (v := ?vzb11) rfl (by kernel_rfl) (by kernel_rfl) (by kernel_rfl) (fun _ _ _ h => h) (Or.inl ⟨by rfl, ?yzb11⟩) (by assumption) ?rzb11
              case yzb11 => (intro w hSw; (try dsimp only at hSw); go_simp; (try with_reducible rfl))
              (try simp only [Act.put, List.setIfInBounds_toArray, List.set_cons_zero, List.set_cons_succ])
              refine wpAnyH_take (i := 13) (oi := { dst := some 91, op := Go.Op.move (Go.Operand.tmp 90), type := 4, pos := "more.go:37", after := #[{ on := 12, ground := Go.Ground.data }, { on := 9, ground := Go.Ground.chain }, { on := 5, ground := Go.Ground.guard }], guard := some (5, true) }) (v := ?vzb12) rfl (by kernel_rfl) (by kernel_rfl) (by kernel_rfl) (fun _ _ _ h => h) (Or.inl ⟨by rfl, ?yzb12⟩) (by assumption) ?rzb12
              case yzb12 => (intro w hSw; (try dsimp only at hSw); go_simp; (try with_reducible rfl))
              (try simp only [Act.put, List.setIfInBounds_toArray, List.set_cons_zero, List.set_cons_succ])
              refine wpAnyH_take (i := 14) (oi := { dst := some 92, op := Go.Op.move (Go.Operand.tmp 8), type := 25, pos := "more.go:37", after := #[{ on := 13, ground := Go.Ground.guard }], guard := some (13, true) }) (v := undef) rfl (by kernel_rfl) (by kernel_rfl) (by kernel_rfl) (fun _ _ _ h => h) (Or.inr ⟨by rfl, rfl⟩) (by assumption) ?_
              (try simp only [Act.put, List.setIfInBounds_toArray, List.set_cons_zero, List.set_cons_succ])
              refine wpAnyH_take (i := 15) (oi := { dst := some 93, op := Go.Op.move (Go.Operand.tmp 11), type := 3, pos := "more.go:37", after := #[{ on := 13, ground := Go.Ground.guard }], guard := some (13, true) }) (v := undef) rfl (by kernel_rfl) (by kernel_rfl) (by kernel_rfl) (fun _ _ _ h => h) (Or.inr ⟨by rfl, rfl⟩) (by assumption) ?_
              (try simp only [Act.put, List.setIfInBounds_toArray, List.set_cons_zero, List.set_cons_succ])
              refine wpAnyH_take (i := 16) (oi := { dst := some 94, op := Go.Op.indexAddr 25 (Go.Operand.tmp 92) (Go.Operand.tmp 93), type := 0, pos := "more.go:37", after := #[{ on := 14, ground := Go.Ground.data }, { on := 15, ground := Go.Ground.data }, { on := 13, ground := Go.Ground.guard }], guard := some (13, true) }) (v := undef) rfl (by kernel_rfl) (by kernel_rfl) (by kernel_rfl) (fun _ _ _ h => h) (Or.inr ⟨by rfl, rfl⟩) (by assumption) ?_
              (try simp only [Act.put, List.setIfInBounds_toArray, List.set_cons_zero, List.set_cons_succ])
              refine wpAnyH_take (i := 17) (oi := { dst := some 95, op := Go.Op.load 27 (Go.Operand.tmp 94), type := 27, pos := "more.go:37", after := #[{ on := 16, ground := Go.Ground.data }, { on := 13, ground := Go.Ground.guard }], guard := some (13, true) }) (v := undef) rfl (by kernel_rfl) (by kernel_rfl) (by kernel_rfl) (fun _ _ _ h => h) (Or.inr ⟨by rfl, rfl⟩) (by assumption) ?_
              (try simp only [Act.put, List.setIfInBounds_toArray, List.set_cons_zero, List.set_cons_succ])
              refine wpAnyH_take (i := 18) (oi := { dst := some 96, op := Go.Op.call { callee := Go.Callee.value (Go.Operand.func 17), args := #[Go.Operand.tmp 95], argTypes := #[27] }, type := 27, pos := "more.go:37", after := #[{ on := 17, ground := Go.Ground.data }, { on := 13, ground := Go.Ground.chain }, { on := 13, ground := Go.Ground.guard }], guard := some (13, true) }) (v := undef) rfl (by kernel_rfl) (by kernel_rfl) (by kernel_rfl) (fun _ _ _ h => h) (Or.inr ⟨by rfl, rfl⟩) (by assumption) ?_
              (try simp only [Act.put, List.setIfInBounds_toArray, List.set_cons_zero, List.set_cons_succ])
              refine wpAnyH_take (i := 19) (oi := { dst := some 97, op := Go.Op.move (Go.Operand.tmp 1), type := 25, pos := "more.go:37", after := #[{ on := 13, ground := Go.Ground.guard }], guard := some (13, true) }) (v := undef) rfl (by kernel_rfl) (by kernel_rfl) (by kernel_rfl) (fun _ _ _ h => h) (Or.inr ⟨by rfl, rfl⟩) (by assumption) ?_
              (try simp only [Act.put, List.setIfInBounds_toArray, List.set_cons_zero, List.set_cons_succ])
              refine wpAnyH_take (i := 20) (oi := { dst := some 98, op := Go.Op.move (Go.Operand.tmp 11), type := 3, pos := "more.go:37", after := #[{ on := 13, ground := Go.Ground.guard }], guard := some (13, true) }) (v := undef) rfl (by kernel_rfl) (by kernel_rfl) (by kernel_rfl) (fun _ _ _ h => h) (Or.inr ⟨by rfl, rfl⟩) (by assumption) ?_
              (try simp only [Act.put, List.setIfInBounds_toArray, List.set_cons_zero, List.set_cons_succ])
              refine wpAnyH_take (i := 21) (oi := { dst := some 99, op := Go.Op.indexAddr 25 (Go.Operand.tmp 97) (Go.Operand.tmp 98), type := 0, pos := "more.go:37", after := #[{ on := 19, ground := Go.Ground.data }, { on := 20, ground := Go.Ground.data }, { on := 13, ground := Go.Ground.guard }], guard := some (13, true) }) (v := undef) rfl (by kernel_rfl) (by kernel_rfl) (by kernel_rfl) (fun _ _ _ h => h) (Or.inr ⟨by rfl, rfl⟩) (by assumption) ?_
              (try simp only [Act.put, List.setIfInBounds_toArray, List.set_cons_zero, List.set_cons_succ])
              refine wpAnyH_take (i := 22) (oi := { dst := some 100, op := Go.Op.load 27 (Go.Operand.tmp 99), type := 27, pos := "more.go:37", after := #[{ on := 21, ground := Go.Ground.data }, { on := 13, ground := Go.Ground.guard }], guard := some (13, true) }) (v := undef) rfl (by kernel_rfl) (by kernel_rfl) (by kernel_rfl) (fun _ _ _ h => h) (Or.inr ⟨by rfl, rfl⟩) (by assumption) ?_
              (try simp only [Act.put, List.setIfInBounds_toArray, List.set_cons_zero, List.set_cons_succ])
              refine wpAnyH_take (i := 23) (oi := { dst := some 101, op := Go.Op.call { callee := Go.Callee.value (Go.Operand.func 17), args := #[Go.Operand.tmp 100], argTypes := #[27] }, type := 27, pos := "more.go:37", after := #[{ on := 22, ground := Go.Ground.data }, { on := 18, ground := Go.Ground.chain }, { on := 13, ground := Go.Ground.guard }], guard := some (13, true) }) (v := undef) rfl (by kernel_rfl) (by kernel_rfl) (by kernel_rfl) (fun _ _ _ h => h) (Or.inr ⟨by rfl, rfl⟩) (by assumption) ?_
              (try simp only [Act.put, List.setIfInBounds_toArray, List.set_cons_zero, List.set_cons_succ])
              refine wpAnyH_take (i := 24) (oi := { dst := some 102, op := Go.Op.binOp Go.BinOp.add 27 (Go.Operand.tmp 101) (Go.Operand.const (Go.Value.int Go.IntKind.u64 1)) 27, type := 27, pos := "more.go:37", after := #[{ on := 23, ground := Go.Ground.data }, { on := 13, ground := Go.Ground.guard }], guard := some (13, true) }) (v := undef) rfl (by kernel_rfl) (by kernel_rfl) (by kernel_rfl) (fun _ _ _ h => h) (Or.inr ⟨by rfl, rfl⟩) (by assumption) ?_
              (try simp only [Act.put, List.setIfInBounds_toArray, List.set_cons_zero, List.set_cons_succ])
              refine wpAnyH_take (i := 25) (oi := { dst := some 103, op := Go.Op.binOp Go.BinOp.rem 27 (Go.Operand.tmp 102) (Go.Operand.const (Go.Value.int Go.IntKind.u64 281474976710656)) 27, type := 27, pos := "more.go:37", after := #[{ on := 24, ground := Go.Ground.data }, { on := 13, ground := Go.Ground.guard }], guard := some (13, true) }) (v := undef) rfl (by kernel_rfl) (by kernel_rfl) (by kernel_rfl) (fun _ _ _ h => h) (Or.inr ⟨by rfl, rfl⟩) (by assumption) ?_
              (try simp only [Act.put, List.setIfInBounds_toArray, List.set_cons_zero, List.set_cons_succ])
              refine wpAnyH_take (i := 26) (oi := { dst := some 104, op := Go.Op.binOp Go.BinOp.eql 27 (Go.Operand.tmp 96) (Go.Operand.tmp 103) 27, type := 4, pos := "more.go:37", after := #[{ on := 18, ground := Go.Ground.data }, { on := 25, ground := Go.Ground.data }, { on := 13, ground := Go.Ground.guard }], guard := some (13, true) }) (v := undef) rfl (by kernel_rfl) (by kernel_rfl) (by kernel_rfl) (fun _ _ _ h => h) (Or.inr ⟨by rfl, rfl⟩) (by assumption) ?_
              (try simp only [Act.put, List.setIfInBounds_toArray, List.set_cons_zero, List.set_cons_succ])
              refine wpAnyH_take (i := 27) (oi := { dst := some 105, op := Go.Op.pick (Go.Operand.tmp 91) (Go.Operand.tmp 104) (Go.Operand.const (Go.Value.bool false)), type := 4, pos := "more.go:37", after := #[{ on := 13, ground := Go.Ground.data }, { on := 26, ground := Go.Ground.data }, { on := 5, ground := Go.Ground.guard }], guard := some (5, true) }) (v := ?vzb13) rfl (by kernel_rfl) (by kernel_rfl) (by kernel_rfl) (fun _ _ _ h => h) (Or.inl ⟨by rfl, ?yzb13⟩) (by assumption) ?rzb13
              case yzb13 => (intro w hSw; (try dsimp only at hSw); go_simp; (try with_reducible rfl))
              (try simp only [Act.put, List.setIfInBounds_toArray, List.set_cons_zero, List.set_cons_succ])
              refine wpAnyH_take (i := 28) (oi := { dst := some 106, op := Go.Op.move (Go.Operand.tmp 105), type := 4, pos := "more.go:37", after := #[{ on := 27, ground := Go.Ground.data }, { on := 23, ground := Go.Ground.chain }, { on := 5, ground := Go.Ground.guard }], guard := some (5, true) }) (v := ?vzb14) rfl (by kernel_rfl) (by kernel_rfl) (by kernel_rfl) (fun _ _ _ h => h) (Or.inl ⟨by rfl, ?yzb14⟩) (by assumption) ?rzb14
              case yzb14 => (intro w hSw; (try dsimp only at hSw); go_simp; (try with_reducible rfl))
              (try simp only [Act.put, List.setIfInBounds_toArray, List.set_cons_zero, List.set_cons_succ])
              refine wpAnyH_take (i := 29) (oi := { dst := some 107, op := Go.Op.fieldAddr 29 (Go.Operand.tmp 5) 1, type := 0, pos := "more.go:37", after := #[{ on := 28, ground := Go.Ground.guard }], guard := some (28, false) }) (v := ?vzb15) rfl (by kernel_rfl) (by kernel_rfl) (by kernel_rfl) (fun _ _ _ h => h) (Or.inl ⟨by rfl, ?yzb15⟩) (by assumption) ?rzb15
              case yzb15 => (intro w hSw; (try dsimp only at hSw); go_simp; (try with_reducible rfl))
              (try simp only [Act.put, List.setIfInBounds_toArray, List.set_cons_zero, List.set_cons_succ])
              refine wpAnyH_take (i := 30) (oi := { dst := some 108, op := Go.Op.load 3 (Go.Operand.tmp 107), type := 3, pos := "more.go:37", after := #[{ on := 29, ground := Go.Ground.data }, { on := 28, ground := Go.Ground.guard }], guard := some (28, false) }) (v := ?vzb16) rfl (by kernel_rfl) (by kernel_rfl) (by kernel_rfl) (fun _ _ _ h => h) (Or.inl ⟨by rfl, ?yzb16⟩) (by assumption) ?rzb16
              case yzb16 => (intro w hSw; (try dsimp only at hSw); go_simp; (try with_reducible rfl))
              (try simp only [Act.put, List.setIfInBounds_toArray, List.set_cons_zero, List.set_cons_succ])
              refine wpAnyH_take (i := 31) (oi := { dst := some 109, op := Go.Op.binOp Go.BinOp.eql 3 (Go.Operand.tmp 108) (Go.Operand.const (Go.Value.int Go.IntKind.i64 2)) 3, type := 4, pos := "more.go:37", after := #[{ on := 30, ground := Go.Ground.data }, { on := 28, ground := Go.Ground.guard }], guard := some (28, false) }) (v := ?vzb17) rfl (by kernel_rfl) (by kernel_rfl) (by kernel_rfl) (fun _ _ _ h => h) (Or.inl ⟨by rfl, ?yzb17⟩) (by assumption) ?rzb17
              case yzb17 => (intro w hSw; (try dsimp only at hSw); go_simp; (try with_reducible rfl))
              (try simp only [Act.put, List.setIfInBounds_toArray, List.set_cons_zero, List.set_cons_succ])
              refine wpAnyH_take (i := 32) (oi := { dst := some 110, op := Go.Op.move (Go.Operand.tmp 109), type := 4, pos := "more.go:37", after := #[{ on := 31, ground := Go.Ground.data }, { on := 28, ground := Go.Ground.chain }, { on := 28, ground := Go.Ground.guard }], guard := some (28, false) }) (v := ?vzb18) rfl (by kernel_rfl) (by kernel_rfl) (by kernel_rfl) (fun _ _ _ h => h) (Or.inl ⟨by rfl, ?yzb18⟩) (by assumption) ?rzb18
              case yzb18 => (intro w hSw; (try dsimp only at hSw); go_simp; (try with_reducible rfl))
              (try simp only [Act.put, List.setIfInBounds_toArray, List.set_cons_zero, List.set_cons_succ])
              refine wpAnyH_take (i := 33) (oi := { dst := some 111, op := Go.Op.move (Go.Operand.tmp 13), type := 4, pos := "more.go:37", after := #[{ on := 32, ground := Go.Ground.guard }], guard := some (32, true) }) (v := ?vzb19) rfl (by kernel_rfl) (by kernel_rfl) (by kernel_rfl) (fun _ _ _ h => h) (Or.inl ⟨by rfl, ?yzb19⟩) (by assumption) ?rzb19
              case yzb19 => (intro w hSw; (try dsimp only at hSw); go_simp; (try with_reducible rfl))
              (try simp only [Act.put, List.setIfInBounds_toArray, List.set_cons_zero, List.set_cons_succ])
              refine wpAnyH_take (i := 34) (oi := { dst := some 112, op := Go.Op.pick (Go.Operand.tmp 110) (Go.Operand.tmp 111) (Go.Operand.const (Go.Value.bool false)), type := 4, pos := "more.go:37", after := #[{ on := 32, ground := Go.Ground.data }, { on := 33, ground := Go.Ground.data }, { on := 28, ground := Go.Ground.guard }], guard := some (28, false) }) (v := ?vzb20) rfl (by kernel_rfl) (by kernel_rfl) (by kernel_rfl) (fun _ _ _ h => h) (Or.inl ⟨by rfl, ?yzb20⟩) (by assumption) ?rzb20
              case yzb20 => (intro w hSw; (try dsimp only at hSw); go_simp; (try with_reducible rfl))
              (try simp only [Act.put, List.setIfInBounds_toArray, List.set_cons_zero, List.set_cons_succ])
              refine wpAnyH_take (i := 35) (oi := { dst := some 113, op := Go.Op.move (Go.Operand.tmp 112), type := 4, pos := "more.go:37", after := #[{ on := 34, ground := Go.Ground.data }, { on := 32, ground := Go.Ground.chain }, { on := 28, ground := Go.Ground.guard }], guard := some (28, false) }) (v := ?vzb21) rfl (by kernel_rfl) (by kernel_rfl) (by kernel_rfl) (fun _ _ _ h => h) (Or.inl ⟨by rfl, ?yzb21⟩) (by assumption) ?rzb21
              case yzb21 => (intro w hSw; (try dsimp only at hSw); go_simp; (try with_reducible rfl))
              (try simp only [Act.put, List.setIfInBounds_toArray, List.set_cons_zero, List.set_cons_succ])
              refine wpAnyH_take (i := 36) (oi := { dst := some 114, op := Go.Op.move (Go.Operand.tmp 8), type := 25, pos := "more.go:37", after := #[{ on := 35, ground := Go.Ground.guard }], guard := some (35, true) }) (v := ?vzb22) rfl (by kernel_rfl) (by kernel_rfl) (by kernel_rfl) (fun _ _ _ h => h) (Or.inl ⟨by rfl, ?yzb22⟩) (by assumption) ?rzb22
              case yzb22 => (intro w hSw; (try dsimp only at hSw); go_simp; (try with_reducible rfl))
              (try simp only [Act.put, List.setIfInBounds_toArray, List.set_cons_zero, List.set_cons_succ])
              refine wpAnyH_take (i := 37) (oi := { dst := some 115, op := Go.Op.move (Go.Operand.tmp 11), type := 3, pos := "more.go:37", after := #[{ on := 35, ground := Go.Ground.guard }], guard := some (35, true) }) (v := ?vzb23) rfl (by kernel_rfl) (by kernel_rfl) (by kernel_rfl) (fun _ _ _ h => h) (Or.inl ⟨by rfl, ?yzb23⟩) (by assumption) ?rzb23
              case yzb23 => (intro w hSw; (try dsimp only at hSw); go_simp; (try with_reducible rfl))
              (try simp only [Act.put, List.setIfInBounds_toArray, List.set_cons_zero, List.set_cons_succ])
              refine wpAnyH_take (i := 38) (oi := { dst := some 116, op := Go.Op.indexAddr 25 (Go.Operand.tmp 114) (Go.Operand.tmp 115), type := 0, pos := "more.go:37", after := #[{ on := 36, ground := Go.Ground.data }, { on := 37, ground := Go.Ground.data }, { on := 35, ground := Go.Ground.guard }], guard := some (35, true) }) (v := ?vzb24) rfl (by kernel_rfl) (by kernel_rfl) (by kernel_rfl) (fun _ _ _ h => h) (Or.inl ⟨by rfl, ?yzb24⟩) (by assumption) ?rzb24
              case yzb24 => (intro w hSw; (try dsimp only at hSw); go_simp; (try with_reducible rfl))
              (try simp only [Act.put, List.setIfInBounds_toArray, List.set_cons_zero, List.set_cons_succ])
              refine wpAnyH_take (i := 39) (oi := { dst := some 117, op := Go.Op.load 27 (Go.Operand.tmp 116), type := 27, pos := "more.go:37", after := #[{ on := 38, ground := Go.Ground.data }, { on := 35, ground := Go.Ground.guard }], guard := some (35, true) }) (v := ?vzb25) rfl (by kernel_rfl) (by kernel_rfl) (by kernel_rfl) (fun _ _ _ h => h) (Or.inl ⟨by rfl, ?yzb25⟩) (by assumption) ?rzb25
              case yzb25 => (intro w hSw; (try dsimp only at hSw); go_simp; (try with_reducible rfl))
              (try simp only [Act.put, List.setIfInBounds_toArray, List.set_cons_zero, List.set_cons_succ])
              refine wpAnyH_take (i := 40) (oi := { dst := some 118, op := Go.Op.binOp Go.BinOp.eql 27 (Go.Operand.tmp 117) (Go.Operand.const (Go.Value.int Go.IntKind.u64 1)) 27, type := 4, pos := "more.go:37", after := #[{ on := 39, ground := Go.Ground.data }, { on := 35, ground := Go.Ground.guard }], guard := some (35, true) }) (v := ?vzb26) rfl (by kernel_rfl) (by kernel_rfl) (by kernel_rfl) (fun _ _ _ h => h) (Or.inl ⟨by rfl, ?yzb26⟩) (by assumption) ?rzb26
              case yzb26 => (intro w hSw; (try dsimp only at hSw); go_simp; (try with_reducible rfl))
              (try simp only [Act.put, List.setIfInBounds_toArray, List.set_cons_zero, List.set_cons_succ])
              refine wpAnyH_take (i := 41) (oi := { dst := some 119, op := Go.Op.pick (Go.Operand.tmp 113) (Go.Operand.tmp 118) (Go.Operand.const (Go.Value.bool false)), type := 4, pos := "more.go:37", after := #[{ on := 35, ground := Go.Ground.data }, { on := 40, ground := Go.Ground.data }, { on := 28, ground := Go.Ground.guard }], guard := some (28, false) }) (v := ?vzb27) rfl (by kernel_rfl) (by kernel_rfl) (by kernel_rfl) (fun _ _ _ h => h) (Or.inl ⟨by rfl, ?yzb27⟩) (by assumption) ?rzb27
              case yzb27 => (intro w hSw; (try dsimp only at hSw); go_simp; (try with_reducible rfl))
              (try simp only [Act.put, List.setIfInBounds_toArray, List.set_cons_zero, List.set_cons_succ])
              refine wpAnyH_take (i := 42) (oi := { dst := some 120, op := Go.Op.pick (Go.Operand.tmp 106) (Go.Operand.const (Go.Value.bool true)) (Go.Operand.tmp 119), type := 4, pos := "more.go:37", after := #[{ on := 28, ground := Go.Ground.data }, { on := 41, ground := Go.Ground.data }, { on := 5, ground := Go.Ground.guard }], guard := some (5, true) }) (v := ?vzb28) rfl (by kernel_rfl) (by kernel_rfl) (by kernel_rfl) (fun _ _ _ h => h) (Or.inl ⟨by rfl, ?yzb28⟩) (by assumption) ?rzb28
              case yzb28 => (intro w hSw; (try dsimp only at hSw); go_simp; (try with_reducible rfl))
              (try simp only [Act.put, List.setIfInBounds_toArray, List.set_cons_zero, List.set_cons_succ])
              refine wpAnyH_take (i := 43) (oi := { dst := some 121, op := Go.Op.pick (Go.Operand.tmp 83) (Go.Operand.tmp 120) (Go.Operand.const (Go.Value.bool false)), type := 4, pos := "more.go:37", after := #[{ on := 5, ground := Go.Ground.data }, { on := 42, ground := Go.Ground.data }, { on := 2, ground := Go.Ground.guard }], guard := some (2, false) }) (v := ?vzb29) rfl (by kernel_rfl) (by kernel_rfl) (by kernel_rfl) (fun _ _ _ h => h) (Or.inl ⟨by rfl, ?yzb29⟩) (by assumption) ?rzb29
              case yzb29 => (intro w hSw; (try dsimp only at hSw); go_simp; (try with_reducible rfl))
              (try simp only [Act.put, List.setIfInBounds_toArray, List.set_cons_zero, List.set_cons_succ])
              refine wpAnyH_take (i := 44) (oi := { dst := some 122, op := Go.Op.pick (Go.Operand.tmp 80) (Go.Operand.const (Go.Value.bool true)) (Go.Operand.tmp 121), type := 4, pos := "more.go:37", after := #[{ on := 2, ground := Go.Ground.data }, { on := 43, ground := Go.Ground.data }], guard := none }) (v := ?vzb30) rfl (by kernel_rfl) (by kernel_rfl) (by kernel_rfl) (fun _ _ _ h => h) (Or.inl ⟨by rfl, ?yzb30⟩) (by assumption) ?rzb30
              case yzb30 => (intro w hSw; (try dsimp only at hSw); go_simp; (try with_reducible rfl))
              (try simp only [Act.put, List.setIfInBounds_toArray, List.set_cons_zero, List.set_cons_succ])
              refine wpAnyH_take (i := 45) (oi := { dst := some 6, op := Go.Op.assign (Go.Operand.tmp 122), type := 4, pos := "more.go:37", after := #[{ on := 44, ground := Go.Ground.data }, { on := 35, ground := Go.Ground.chain }, { on := 0, ground := Go.Ground.phase }, { on := 1, ground := Go.Ground.phase }, { on := 2, ground := Go.Ground.phase }, { on := 3, ground := Go.Ground.phase }, { on := 4, ground := Go.Ground.phase }, { on := 5, ground := Go.Ground.phase }, { on := 6, ground := Go.Ground.phase }, { on := 7, ground := Go.Ground.phase }, { on := 8, ground := Go.Ground.phase }, { on := 9, ground := Go.Ground.phase }, { on := 10, ground := Go.Ground.phase }, { on := 11, ground := Go.Ground.phase }, { on := 12, ground := Go.Ground.phase }, { on := 13, ground := Go.Ground.phase }, { on := 14, ground := Go.Ground.phase }, { on := 15, ground := Go.Ground.phase }, { on := 16, ground := Go.Ground.phase }, { on := 17, ground := Go.Ground.phase }, { on := 18, ground := Go.Ground.phase }, { on := 19, ground := Go.Ground.phase }, { on := 20, ground := Go.Ground.phase }, { on := 21, ground := Go.Ground.phase }, { on := 22, ground := Go.Ground.phase }, { on := 23, ground := Go.Ground.phase }, { on := 24, ground := Go.Ground.phase }, { on := 25, ground := Go.Ground.phase }, { on := 26, ground := Go.Ground.phase }, { on := 27, ground := Go.Ground.phase }, { on := 28, ground := Go.Ground.phase }, { on := 29, ground := Go.Ground.phase }, { on := 30, ground := Go.Ground.phase }, { on := 31, ground := Go.Ground.phase }, { on := 32, ground := Go.Ground.phase }, { on := 33, ground := Go.Ground.phase }, { on := 34, ground := Go.Ground.phase }, { on := 35, ground := Go.Ground.phase }, { on := 36, ground := Go.Ground.phase }, { on := 37, ground := Go.Ground.phase }, { on := 38, ground := Go.Ground.phase }, { on := 39, ground := Go.Ground.phase }, { on := 40, ground := Go.Ground.phase }, { on := 41, ground := Go.Ground.phase }, { on := 42, ground := Go.Ground.phase }, { on := 43, ground := Go.Ground.phase }, { on := 44, ground := Go.Ground.phase }], guard := none }) (v := ?vzb31) rfl (by kernel_rfl) (by kernel_rfl) (by kernel_rfl) (fun _ _ _ h => h) (Or.inl ⟨by rfl, ?yzb31⟩) (by assumption) ?rzb31
              case yzb31 => (intro w hSw; (try dsimp only at hSw); go_simp; (try with_reducible rfl))
              (try simp only [Act.put, List.setIfInBounds_toArray, List.set_cons_zero, List.set_cons_succ])
              refine wpAnyH_done (by kernel_rfl) ?_ _
              go_wp2
              go_ret
              exact ⟨rfl, Z.out.trans (ZC.out.mono Z.out.size)⟩
theorem cells_walk (W D J S : Int) (A : Option Addr) (n c : Nat) (m : List Int) (f : Fr) (w : World) (hm : Rd w A m) (hn : m.length = n) (hu : UM m) (hf : UF f) : Tells 5 #[cf W D J S, .slice A n c, fv f] w (.bool true) := by
  by_cases hs : n ≤ 500
  · exact cells_main W D J S A n c m f w hm hn hs hu hf
  · exact cells_big W D J S A n c f w (by omega)
end Go.Proofs.Ytjddglandcpfpaa
