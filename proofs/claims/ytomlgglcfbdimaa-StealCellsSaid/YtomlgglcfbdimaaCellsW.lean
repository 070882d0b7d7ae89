/- The walk of StealCells. -/
import Derived.Test.YtomlgglcfbdimaaStH
import Derived.Test.YtomlgglcfbdimaaSaL
import Derived.Deep.QuietTactic
import Derived.BigQuiet
namespace Go.Proofs.Ytomlgglcfbdimaa
open Go.RowKit Go.Deep
attribute [local go_sem ↓] eql_fr guard_fr
theorem stealS_ok {W D J S : Int} {m : List Int} {f : Fr} (hu : UM m) (hg : goes W D J S m f 2 4 = true) (h : (stealS W D J S m f).2.res = 1) : ∃ k : Nat, k < m.length ∧ ¬ at0 (stealS W D J S m f).1 k = at0 m k := by
  obtain ⟨hk, hr, ho, h0, h4⟩ := goes_iff.1 hg
  obtain ⟨hm, hlen, hq0, hqW⟩ := okw_iff.1 hk
  obtain ⟨hW, hD, hJ, hS⟩ := may_lim hm
  have hge := bg_ge (J := J) hD.1 hJ.1 hq0
  have hst := bg_step (J := J) hD.1 hqW
  unfold stealS at h ⊢
  rw [if_pos hg] at h ⊢
  split at h
  · simp [hr] at h
  · split at h
    · split at h
      · simp [ed] at h
      · simp [hr] at h
    · split at h
      · simp [hr] at h
      · split at h
        · rename_i c0 c1 c2 hy
          rw [if_neg c0, if_neg c1, if_neg c2, if_pos hy]
          have hU : U f.y := by rw [← hy]; exact at0_U hu _
          refine ⟨(bg D J f.who).toNat, by omega, ?_⟩
          have e : ((bg D J f.who).toNat : Int) = bg D J f.who := Int.toNat_of_nonneg (by omega)
          rw [e, at0_put _ (by omega) (by omega), hy]
          unfold U at hU
          omega
        · simp [ed] at h
/-- Where the cells differ behind a step: at the top, by one more, or nowhere. -/
theorem scells_dif (W D J S : Int) (m : List Int) (f : Fr) (hu : UM m) : ∃ dif : Int, (∀ k : Nat, k < m.length → (¬ at0 (stealS W D J S m f).1 k = at0 m k ↔ (k : Int) = dif)) ∧ ((dif = -1 ∧ (goes W D J S m f 2 4 = true → (stealS W D J S m f).2.res ≠ 1)) ∨ (0 ≤ dif ∧ dif < m.length ∧ goes W D J S m f 2 4 = true ∧ dif = bg D J f.who ∧ f.pc = 3 ∧ (stealS W D J S m f).2.res = 1 ∧ at0 (stealS W D J S m f).1 dif = (at0 m dif + 1) % 18446744073709551616)) := by
  by_cases h : ∃ k : Nat, k < m.length ∧ ¬ at0 (stealS W D J S m f).1 k = at0 m k
  · obtain ⟨k, hk, hd⟩ := h
    obtain ⟨hg, hi, hp, hy, hl, hf⟩ := stealS_cells hd
    refine ⟨(k : Int), fun i hi2 => ⟨fun hi3 => ?_, fun e => ?_⟩, .inr ⟨by omega, by omega, hg, hi, hp, by rw [hf]; rfl, ?_⟩⟩
    · obtain ⟨_, hc2, _⟩ := stealS_cells hi3
      omega
    · have : i = k := by omega
      subst this; exact hd
    · rw [hl, at0_put _ (by omega) (by omega), hy]
  · exact ⟨-1, fun i hi => ⟨fun h2 => absurd ⟨i, hi, h2⟩ h, fun e => by omega⟩, .inl ⟨rfl, fun hg he => h (stealS_ok hu hg he)⟩⟩
/-- So many differences ahead of place j, and the last one. -/
def Dv (dif : Int) (j : Nat) (cn a : Int) : Prop := (0 ≤ dif ∧ dif < j ∧ cn = 1 ∧ a = dif) ∨ ((dif < 0 ∨ (j : Int) ≤ dif) ∧ cn = 0 ∧ a = -1)
theorem cells_big (W D J S : Int) (A : Option Addr) (n c : Nat) (f : Fr) (w : World) (hn : 500 < n) : Tells 6 #[cf W D J S, .slice A n c, fv f] w (.bool true) := by
  obtain ⟨BX, BF, Z0, hz⟩ := boxes2 w W D J S f
  obtain ⟨o, p, q, v, x, y, s⟩ := f
  have hd : decide ((500 : Int) < (n : Int)) = true := decide_eq_true (by omega)
  go_enter Try.func6, Try.ntmps6
  go_wp2_with fail
  change Calls _ _ _ (bxc w W D J S ⟨o, p, q, v, x, y, s⟩) _
  generalize bxc w W D J S ⟨o, p, q, v, x, y, s⟩ = w0 at BX BF Z0 hz ⊢
  refine (awake_any _).mono ?_
  rintro _ w1 ⟨rfl, z⟩
  have Z := Lib.hid (Z0.trans (z.mono (by omega)))
  clear z
  go_wp2
  go_ret
  exact ⟨rfl, Z.out⟩
set_option maxHeartbeats 1000000 in
theorem cells_main (W D J S : Int) (A : Option Addr) (n c : Nat) (m : List Int) (f : Fr) (w : World) (hm : Rd w A m) (hn : m.length = n) (hs : n ≤ 500) (hu : UM m) (hf : UF f) : Tells 6 #[cf W D J S, .slice A n c, fv f] w (.bool true) := by
  obtain ⟨BX0, BF0, Z0, hz⟩ := boxes2 w W D J S f
  have hlen2 := (stealS_len W D J S m f).trans hn
  obtain ⟨dif, hdif, hwhere⟩ := scells_dif W D J S m f hu
  rw [hn] at hdif hwhere
  have hstay : goes W D J S m f 2 4 = false → stealS W D J S m f = (m, f) := fun h => by unfold stealS; rw [h]; rfl
  obtain ⟨l', f', hP⟩ : ∃ l' f', stealS W D J S m f = (l', f') := ⟨_, _, rfl⟩
  rw [hP] at hlen2 hdif hstay hwhere
  simp only at hlen2 hdif
  obtain ⟨o, p, q, v, x, y, s⟩ := f
  simp only at hwhere
  have hd : decide ((500 : Int) < (n : Int)) = false := decide_eq_false (by omega)
  have HP := Lib.hid hP
  have HN := Lib.hid hn
  have HU := Lib.hid hf
  have HS := Lib.hid hs
  have HL2 := Lib.hid hlen2
  have HD := Lib.hid hdif
  have HWR := Lib.hid hwhere
  have HST := Lib.hid hstay
  have LM0 := Lib.hid hm
  clear hP hn hf hlen2 hdif hwhere hstay hm hu
  go_enter Try.func6, Try.ntmps6
  go_wp2_with fail
  change Calls _ _ _ (bxc w W D J S ⟨o, p, q, v, x, y, s⟩) _
  generalize bxc w W D J S ⟨o, p, q, v, x, y, s⟩ = w0 at BX0 BF0 Z0 hz ⊢
  refine (awake_any _).mono ?_
  rintro _ w1 ⟨rfl, z⟩
  have Z := Lib.hid (Z0.trans (z.mono (by omega)))
  have BX := Lib.hid (BX0.below z)
  have BF := Lib.hid (BF0.after z)
  have LM := Lib.hid (LM0.out.below Z.out)
  clear z Z0 BX0 BF0 hz LM0
  obtain ⟨gx, x_0, x_1, x_2, x_3⟩ := BX.out
  obtain ⟨a0, a1, a2, a3, a4, a5, a6⟩ := BF.out.cells
  have la := BF.out.lt
  simp only at a0 a1 a2 a3 a4 a5 a6
  go_wp2_with fail
  refine (steal_n LM.out HN.out HS.out HU.out HP.out).mono ?_
  rintro _ w2 ⟨A2, c2, rfl, hn2, z⟩
  clear gx x_0 x_1 x_2 x_3 a0 a1 a2 a3 a4 a5 a6 la
  replace Z := Lib.hid (Z.out.trans (z.mono Z.out.size))
  replace BX := Lib.hid (BX.out.below z)
  replace BF := Lib.hid (BF.out.after z)
  replace LM := Lib.hid (LM.out.below z)
  have LA := Lib.hid hn2.rd
  clear hn2 z
  obtain ⟨ws, hws⟩ : ∃ ws, ws = w2.alloc (.cells #[.int .i64 f'.op, .int .i64 f'.pc, .int .i64 f'.who, .int .u64 f'.val, .int .u64 f'.x, .int .u64 f'.y, .int .i64 f'.res] 28) := ⟨_, rfl⟩
  have hz := box_below w2 (.cells #[.int .i64 f'.op, .int .i64 f'.pc, .int .i64 f'.who, .int .u64 f'.val, .int .u64 f'.x, .int .u64 f'.y, .int .i64 f'.res] 28)
  rw [← hws] at hz
  have BG := Lib.hid (show Bf ws w2.heap.size f' by rw [hws]; exact Bf.new w2 f')
  replace BX := Lib.hid (BX.out.below hz)
  replace BF := Lib.hid (BF.out.after hz)
  replace LM := Lib.hid (LM.out.below hz)
  replace LA := Lib.hid (LA.out.below hz)
  replace Z := Lib.hid (Z.out.trans (hz.mono Z.out.size))
  have HW := Lib.hid hws
  clear hz hws
  go_wp2
  go_loopw [10, 11, 12] (fun cn at_ i wr => ∃ (j : Nat) (C a : Int), i = .int .i64 j ∧ cn = .int .i64 C ∧ at_ = .int .i64 a ∧ j ≤ n ∧ Hid (Dv dif j C a) ∧ Hid (Below ws.heap.size ws wr)) (fun _ _ i _ => n - (intOf i).toNat)
  case atStart =>
    obtain rfl := HW.out
    exact ⟨0, 0, -1, rfl, rfl, rfl, by omega, Lib.hid (.inr ⟨by omega, rfl, rfl⟩), Lib.hid (Below.refl _ _)⟩
  case round =>
    obtain ⟨j, C, a, rfl, rfl, rfl, hj, HV, HZ⟩ := hrel
    by_cases hlt : j < n
    · have h1 : j < l'.length := by rw [HL2.out]; exact hlt
      have h2 : j < m.length := by rw [HN.out]; exact hlt
      obtain ⟨e1, rfl, al, ac⟩ := (LA.out.below HZ.out) (by omega)
      obtain ⟨e2, rfl, bl, bc⟩ := (LM.out.below HZ.out) (by omega)
      have k1 := ac j _ (List.getElem?_eq_getElem h1)
      have k2 := bc j _ (List.getElem?_eq_getElem h2)
      have hjl : (j : Int) < (n : Int) := by omega
      have hdj := HD.out j hlt
      rw [at0_in (by omega) (by omega), at0_in (by omega) (by omega)] at hdj
      simp only [Int.toNat_natCast] at hdj
      generalize l'[j] = u at *
      generalize m[j] = u' at *
      clear ac bc al bl h1 h2
      by_cases hje : (j : Int) = dif
      · have huv : (u != u') = true := by simpa using hdj.2 hje
        have hcc : C = 0 := by rcases HV.out with ⟨_, h, _⟩ | ⟨_, h, _⟩; omega; exact h
        subst hcc
        have HJE := Lib.hid hje
        clear hje hdj
        go_wp2_with fail
        go_quiet (fail)
        go_wp2
        go_roundw
        case rel => exact ⟨j + 1, 1, (j : Int), by go_num, by go_num, rfl, by omega, Lib.hid (.inl ⟨by have := HJE.out; omega, by have := HJE.out; omega, rfl, HJE.out⟩), Lib.hid (HZ.out.trans ((below_drewN _ _).mono HZ.out.size))⟩
        case measure => simp [intOf]; omega
      · have huv : (u != u') = false := by by_cases h : u = u'; simp [h]; exact absurd (hdj.1 h) hje
        have HJE := Lib.hid hje
        clear hje hdj
        go_wp2_with fail
        go_quiet (fail)
        go_wp2
        go_roundw
        case rel =>
          refine ⟨j + 1, C, a, by go_num, rfl, rfl, by omega, Lib.hid ?_, Lib.hid (HZ.out.trans ((below_drewN _ _).mono HZ.out.size))⟩
          have h3 := HJE.out
          rcases HV.out with ⟨h1, h2, h4, h5⟩ | ⟨h1, h2, h4⟩
          · exact .inl ⟨h1, by omega, h4, h5⟩
          · exact .inr ⟨by omega, h2, h4⟩
        case measure => simp [intOf]; omega
    · obtain rfl : j = n := by omega
      replace BX := Lib.hid (BX.out.below HZ.out)
      replace BF := Lib.hid (BF.out.after HZ.out)
      replace LM := Lib.hid (LM.out.below HZ.out)
      replace LA := Lib.hid (LA.out.below HZ.out)
      replace BG := Lib.hid (BG.out.after HZ.out)
      replace Z := Lib.hid (Z.out.trans (HZ.out.mono Z.out.size))
      clear HZ HW hlt hj
      obtain ⟨gx, x_0, x_1, x_2, x_3⟩ := BX.out
      obtain ⟨a0, a1, a2, a3, a4, a5, a6⟩ := BF.out.cells
      have la := BF.out.lt
      simp only at a0 a1 a2 a3 a4 a5 a6
      cases hg : goes W D J S m ⟨o, p, q, v, x, y, s⟩ 2 4
      · have hst := HST.out hg
        injection hst with hst1 hst2
        have HG := Lib.hid hg
        have hC : C = 0 := by
          have h := HWR.out
          rcases h with ⟨h, _⟩ | ⟨_, _, h, _⟩
          · rcases HV.out with ⟨h1, _⟩ | ⟨_, h2, _⟩; omega; exact h2
          · rw [hg] at h; cases h
        subst hC
        rw [hst2] at BG
        clear hg hst1 hst2
        go_wp2_with fail
        refine (Tells.of (goes_any W D J S 2 4 A j c m ⟨o, p, q, v, x, y, s⟩ _ HN.out) (v' := .bool false) (by rw [HG.out])).mono ?_
        rintro _ w3 ⟨rfl, z⟩
        clear gx x_0 x_1 x_2 x_3 a0 a1 a2 a3 a4 a5 a6 la
        replace Z := Lib.hid (Z.out.trans (z.mono Z.out.size))
        replace BX := Lib.hid (BX.out.below z)
        replace BF := Lib.hid (BF.out.after z)
        replace LM := Lib.hid (LM.out.below z)
        replace LA := Lib.hid (LA.out.below z)
        replace BG := Lib.hid (BG.out.after z)
        clear z
        obtain ⟨a0, a1, a2, a3, a4, a5, a6⟩ := BF.out.cells
        have la := BF.out.lt
        simp only at a0 a1 a2 a3 a4 a5 a6
        obtain ⟨b0, b1, b2, b3, b4, b5, b6⟩ := BG.out.cells
        have lb := BG.out.lt
        simp only at b0 b1 b2 b3 b4 b5 b6
        go_wp2
        go_ret
        exact ⟨rfl, Z.out⟩
      · have HG := Lib.hid hg
        have hok := (goes_iff.1 hg).1
        simp only at hok
        have HOT := Lib.hid (show ow W D J S q 0 = bg D J q by rw [ow_ok hok, Int.add_zero])
        have hway : (C = 0 ∧ f'.res ≠ 1) ∨ (∃ b : Nat, C = 1 ∧ a = (b : Int) ∧ b < j ∧ (b : Int) = bg D J q ∧ p = 3 ∧ f'.res = 1 ∧ at0 l' b = (at0 m b + 1) % 18446744073709551616) := by
          rcases HV.out with ⟨h1, h2, h3, h4⟩ | ⟨h1, h2, h3⟩
          · right
            rcases HWR.out with ⟨h, _⟩ | ⟨g1, _, _, g4, g5, g6, g7⟩
            · omega
            · obtain ⟨b, rfl⟩ := Int.eq_ofNat_of_zero_le g1
              exact ⟨b, h3, h4, by omega, g4, g5, g6, g7⟩
          · left
            rcases HWR.out with ⟨_, h⟩ | ⟨g1, g2, _⟩
            · exact ⟨h2, h hg⟩
            · omega
        have HWAY := Lib.hid hway
        clear hg hok hway
        go_wp2_with fail
        refine (Tells.of (goes_any W D J S 2 4 A j c m ⟨o, p, q, v, x, y, s⟩ _ HN.out) (v' := .bool true) (by rw [HG.out])).mono ?_
        rintro _ w3 ⟨rfl, z⟩
        clear gx x_0 x_1 x_2 x_3 a0 a1 a2 a3 a4 a5 a6 la
        replace Z := Lib.hid (Z.out.trans (z.mono Z.out.size))
        replace BX := Lib.hid (BX.out.below z)
        replace BF := Lib.hid (BF.out.after z)
        replace LM := Lib.hid (LM.out.below z)
        replace LA := Lib.hid (LA.out.below z)
        replace BG := Lib.hid (BG.out.after z)
        clear z
        obtain ⟨gx, x_0, x_1, x_2, x_3⟩ := BX.out
        obtain ⟨a0, a1, a2, a3, a4, a5, a6⟩ := BF.out.cells
        have la := BF.out.lt
        simp only at a0 a1 a2 a3 a4 a5 a6
        obtain ⟨b0, b1, b2, b3, b4, b5, b6⟩ := BG.out.cells
        have lb := BG.out.lt
        rcases HWAY.out with ⟨rfl, hr⟩ | ⟨b, rfl, rfl, hbj, hbB, rfl, hr, hv⟩
        · have hr2 : (f'.res != 1) = true := by simpa using hr
          clear hr
          go_wp2_with fail
          go_quiet (fail)
          go_wp2
          go_ret
          exact ⟨rfl, Z.out.trans ((below_drewN _ _).mono Z.out.size)⟩
        · have h1 : b < l'.length := by rw [HL2.out]; exact hbj
          have hr0 := Lib.hid hr
          have h2 : b < m.length := by rw [HN.out]; exact hbj
          obtain ⟨ad, rfl, al, ac⟩ := LA.out (by omega)
          obtain ⟨ae, rfl, bl, bc⟩ := LM.out (by omega)
          have k1 := ac b _ (List.getElem?_eq_getElem h1)
          have k2 := bc b _ (List.getElem?_eq_getElem h2)
          have hbl : (b : Int) < (j : Int) := by omega
          rw [at0_in (by omega) (by omega), at0_in (by omega) (by omega)] at hv
          simp only [Int.toNat_natCast] at hv
          rw [hv] at k1
          generalize m[b] = u at *
          clear ac bc h1 h2 hv
          rw [hr] at b6
          have HOB := Lib.hid (HOT.out.trans hbB.symm)
          clear hbB hr
          have HK := Lib.hid (show ∀ x', Below w3.heap.size w3 x' → (fun w' => w'.cell? ⟨w.heap.size, 0, none⟩ = some (.int .i64 W) ∧ w'.cell? ⟨w.heap.size, 1, none⟩ = some (.int .i64 D) ∧ w'.cell? ⟨w.heap.size, 2, none⟩ = some (.int .i64 J) ∧ w'.cell? ⟨w.heap.size, 3, none⟩ = some (.int .i64 S) ∧ w'.cell? ⟨w.heap.size + 1, 1, none⟩ = some (.int .i64 3) ∧ w'.cell? ⟨w.heap.size + 1, 2, none⟩ = some (.int .i64 q) ∧ w'.cell? ⟨w2.heap.size, 6, none⟩ = some (.int .i64 1) ∧ w'.cell? (ad.add b) = some (.int .u64 ((u + 1) % 18446744073709551616)) ∧ w'.cell? (ae.add b) = some (.int .u64 u) ∧ Below w3.heap.size w3 w') x' from fun x' hx => by
            obtain ⟨_, e0, e1, e2, e3⟩ := BX.out.below hx
            obtain ⟨f0, f1, f2, f3, f4, f5, f6⟩ := (BF.out.after hx).cells
            obtain ⟨g0, g1, g2, g3, g4, g5, g6⟩ := (BG.out.after hx).cells
            rw [hr0.out] at g6
            exact ⟨e0, e1, e2, e3, f1, f2, g6, (hx.cell (p := ad.add b) (by rw [block_add]; exact al)).trans k1, (hx.cell (p := ae.add b) (by rw [block_add]; exact bl)).trans k2, hx⟩)
          clear gx x_0 x_1 x_2 x_3 a0 a1 a2 a3 a4 a5 a6 la b0 b1 b2 b3 b4 b5 b6 lb
          clear al bl k1 k2
          have hw : ((u + 1) % 18446744073709551616 == IntKind.u64.wrap (u + 1)) = true := by rw [beq_iff_eq]; rfl
          go_wp2_with fail
          refine wp_region_held_drew (S := fun w' => w'.cell? ⟨w.heap.size, 0, none⟩ = some (.int .i64 W) ∧ w'.cell? ⟨w.heap.size, 1, none⟩ = some (.int .i64 D) ∧ w'.cell? ⟨w.heap.size, 2, none⟩ = some (.int .i64 J) ∧ w'.cell? ⟨w.heap.size, 3, none⟩ = some (.int .i64 S) ∧ w'.cell? ⟨w.heap.size + 1, 1, none⟩ = some (.int .i64 3) ∧ w'.cell? ⟨w.heap.size + 1, 2, none⟩ = some (.int .i64 q) ∧ w'.cell? ⟨w2.heap.size, 6, none⟩ = some (.int .i64 1) ∧ w'.cell? (ad.add b) = some (.int .u64 ((u + 1) % 18446744073709551616)) ∧ w'.cell? (ae.add b) = some (.int .u64 u) ∧ Below w3.heap.size w3 w') (by kernel_rfl) (HK.out _ (keep_drew (Below.refl _ _))) (fun hHeld => ?_)
          refine wpAnyH_take (i := 0) (oi := { dst := some 64, op := Go.Op.move (Go.Operand.tmp 10), type := 3, pos := "more.go:34", after := #[], guard := none }) (v := ?vsc_0) rfl (by kernel_rfl) (by kernel_rfl) (by kernel_rfl) (fun _ _ _ h => h) (Or.inl ⟨by rfl, ?ysc_0⟩) (by assumption) ?rsc_0
          case ysc_0 => (intro w hSw; (try dsimp only at hSw); go_simp; (try with_reducible rfl))
          (try simp only [Act.put, List.setIfInBounds_toArray, List.set_cons_zero, List.set_cons_succ])
          refine wpAnyH_take (i := 1) (oi := { dst := some 65, op := Go.Op.binOp Go.BinOp.eql 3 (Go.Operand.tmp 64) (Go.Operand.const (Go.Value.int Go.IntKind.i64 0)) 3, type := 4, pos := "more.go:34", after := #[{ on := 0, ground := Go.Ground.data }], guard := none }) (v := ?vsc_1) rfl (by kernel_rfl) (by kernel_rfl) (by kernel_rfl) (fun _ _ _ h => h) (Or.inl ⟨by rfl, ?ysc_1⟩) (by assumption) ?rsc_1
          case ysc_1 => (intro w hSw; (try dsimp only at hSw); go_simp; (try with_reducible rfl))
          (try simp only [Act.put, List.setIfInBounds_toArray, List.set_cons_zero, List.set_cons_succ])
          refine wpAnyH_take (i := 2) (oi := { dst := some 66, op := Go.Op.move (Go.Operand.tmp 65), type := 4, pos := "more.go:34", after := #[{ on := 1, ground := Go.Ground.data }], guard := none }) (v := ?vsc_2) rfl (by kernel_rfl) (by kernel_rfl) (by kernel_rfl) (fun _ _ _ h => h) (Or.inl ⟨by rfl, ?ysc_2⟩) (by assumption) ?rsc_2
          case ysc_2 => (intro w hSw; (try dsimp only at hSw); go_simp; (try with_reducible rfl))
          (try simp only [Act.put, List.setIfInBounds_toArray, List.set_cons_zero, List.set_cons_succ])
          refine wpAnyH_take (i := 3) (oi := { dst := some 67, op := Go.Op.fieldAddr 28 (Go.Operand.tmp 9) 6, type := 0, pos := "more.go:34", after := #[{ on := 2, ground := Go.Ground.guard }], guard := some (2, true) }) (v := undef) rfl (by kernel_rfl) (by kernel_rfl) (by kernel_rfl) (fun _ _ _ h => h) (Or.inr ⟨by rfl, rfl⟩) (by assumption) ?_
          (try simp only [Act.put, List.setIfInBounds_toArray, List.set_cons_zero, List.set_cons_succ])
          refine wpAnyH_take (i := 4) (oi := { dst := some 68, op := Go.Op.load 3 (Go.Operand.tmp 67), type := 3, pos := "more.go:34", after := #[{ on := 3, ground := Go.Ground.data }, { on := 2, ground := Go.Ground.guard }], guard := some (2, true) }) (v := undef) rfl (by kernel_rfl) (by kernel_rfl) (by kernel_rfl) (fun _ _ _ h => h) (Or.inr ⟨by rfl, rfl⟩) (by assumption) ?_
          (try simp only [Act.put, List.setIfInBounds_toArray, List.set_cons_zero, List.set_cons_succ])
          refine wpAnyH_take (i := 5) (oi := { dst := some 69, op := Go.Op.binOp Go.BinOp.neq 3 (Go.Operand.tmp 68) (Go.Operand.const (Go.Value.int Go.IntKind.i64 1)) 3, type := 4, pos := "more.go:34", after := #[{ on := 4, ground := Go.Ground.data }, { on := 2, ground := Go.Ground.guard }], guard := some (2, true) }) (v := undef) rfl (by kernel_rfl) (by kernel_rfl) (by kernel_rfl) (fun _ _ _ h => h) (Or.inr ⟨by rfl, rfl⟩) (by assumption) ?_
          (try simp only [Act.put, List.setIfInBounds_toArray, List.set_cons_zero, List.set_cons_succ])
          refine wpAnyH_take (i := 6) (oi := { dst := some 70, op := Go.Op.pick (Go.Operand.tmp 66) (Go.Operand.tmp 69) (Go.Operand.const (Go.Value.bool false)), type := 4, pos := "more.go:34", after := #[{ on := 2, ground := Go.Ground.data }, { on := 5, ground := Go.Ground.data }], guard := none }) (v := ?vsc_6) rfl (by kernel_rfl) (by kernel_rfl) (by kernel_rfl) (fun _ _ _ h => h) (Or.inl ⟨by rfl, ?ysc_6⟩) (by assumption) ?rsc_6
          case ysc_6 => (intro w hSw; (try dsimp only at hSw); go_simp; (try with_reducible rfl))
          (try simp only [Act.put, List.setIfInBounds_toArray, List.set_cons_zero, List.set_cons_succ])
          refine wpAnyH_take (i := 7) (oi := { dst := some 71, op := Go.Op.move (Go.Operand.tmp 70), type := 4, pos := "more.go:34", after := #[{ on := 6, ground := Go.Ground.data }, { on := 2, ground := Go.Ground.chain }], guard := none }) (v := ?vsc_7) rfl (by kernel_rfl) (by kernel_rfl) (by kernel_rfl) (fun _ _ _ h => h) (Or.inl ⟨by rfl, ?ysc_7⟩) (by assumption) ?rsc_7
          case ysc_7 => (intro w hSw; (try dsimp only at hSw); go_simp; (try with_reducible rfl))
          (try simp only [Act.put, List.setIfInBounds_toArray, List.set_cons_zero, List.set_cons_succ])
          refine wpAnyH_take (i := 8) (oi := { dst := some 72, op := Go.Op.move (Go.Operand.tmp 10), type := 3, pos := "more.go:34", after := #[{ on := 7, ground := Go.Ground.guard }], guard := some (7, false) }) (v := ?vsc_8) rfl (by kernel_rfl) (by kernel_rfl) (by kernel_rfl) (fun _ _ _ h => h) (Or.inl ⟨by rfl, ?ysc_8⟩) (by assumption) ?rsc_8
          case ysc_8 => (intro w hSw; (try dsimp only at hSw); go_simp; (try with_reducible rfl))
          (try simp only [Act.put, List.setIfInBounds_toArray, List.set_cons_zero, List.set_cons_succ])
          refine wpAnyH_take (i := 9) (oi := { dst := some 73, op := Go.Op.binOp Go.BinOp.eql 3 (Go.Operand.tmp 72) (Go.Operand.const (Go.Value.int Go.IntKind.i64 1)) 3, type := 4, pos := "more.go:34", after := #[{ on := 8, ground := Go.Ground.data }, { on := 7, ground := Go.Ground.guard }], guard := some (7, false) }) (v := ?vsc_9) rfl (by kernel_rfl) (by kernel_rfl) (by kernel_rfl) (fun _ _ _ h => h) (Or.inl ⟨by rfl, ?ysc_9⟩) (by assumption) ?rsc_9
          case ysc_9 => (intro w hSw; (try dsimp only at hSw); go_simp; (try with_reducible rfl))
          (try simp only [Act.put, List.setIfInBounds_toArray, List.set_cons_zero, List.set_cons_succ])
          refine wpAnyH_take (i := 10) (oi := { dst := some 74, op := Go.Op.move (Go.Operand.tmp 73), type := 4, pos := "more.go:34", after := #[{ on := 9, ground := Go.Ground.data }, { on := 7, ground := Go.Ground.chain }, { on := 7, ground := Go.Ground.guard }], guard := some (7, false) }) (v := ?vsc_10) rfl (by kernel_rfl) (by kernel_rfl) (by kernel_rfl) (fun _ _ _ h => h) (Or.inl ⟨by rfl, ?ysc_10⟩) (by assumption) ?rsc_10
          case ysc_10 => (intro w hSw; (try dsimp only at hSw); go_simp; (try with_reducible rfl))
          (try simp only [Act.put, List.setIfInBounds_toArray, List.set_cons_zero, List.set_cons_succ])
          refine wpAnyH_take (i := 11) (oi := { dst := some 75, op := Go.Op.move (Go.Operand.tmp 11), type := 3, pos := "more.go:34", after := #[{ on := 10, ground := Go.Ground.guard }], guard := some (10, true) }) (v := ?vsc_11) rfl (by kernel_rfl) (by kernel_rfl) (by kernel_rfl) (fun _ _ _ h => h) (Or.inl ⟨by rfl, ?ysc_11⟩) (by assumption) ?rsc_11
          case ysc_11 => (intro w hSw; (try dsimp only at hSw); go_simp; (try with_reducible rfl))
          (try simp only [Act.put, List.setIfInBounds_toArray, List.set_cons_zero, List.set_cons_succ])
          refine wpAnyH_take (i := 12) (oi := { dst := some 76, op := Go.Op.load 23 (Go.Operand.tmp 3), type := 23, pos := "more.go:34", after := #[{ on := 10, ground := Go.Ground.guard }], guard := some (10, true) }) (v := ?vsc_12) rfl (by kernel_rfl) (by kernel_rfl) (by kernel_rfl) (fun _ _ _ h => h) (Or.inl ⟨by rfl, ?ysc_12⟩) (by assumption) ?rsc_12
          case ysc_12 => (intro w hSw; (try dsimp only at hSw); go_simp; (try with_reducible rfl))
          (try simp only [Act.put, List.setIfInBounds_toArray, List.set_cons_zero, List.set_cons_succ])
          refine wpAnyH_take (i := 13) (oi := { dst := some 77, op := Go.Op.fieldAddr 28 (Go.Operand.tmp 5) 2, type := 0, pos := "more.go:34", after := #[{ on := 10, ground := Go.Ground.guard }], guard := some (10, true) }) (v := ?vsc_13) rfl (by kernel_rfl) (by kernel_rfl) (by kernel_rfl) (fun _ _ _ h => h) (Or.inl ⟨by rfl, ?ysc_13⟩) (by assumption) ?rsc_13
          case ysc_13 => (intro w hSw; (try dsimp only at hSw); go_simp; (try with_reducible rfl))
          (try simp only [Act.put, List.setIfInBounds_toArray, List.set_cons_zero, List.set_cons_succ])
          refine wpAnyH_take (i := 14) (oi := { dst := some 78, op := Go.Op.load 3 (Go.Operand.tmp 77), type := 3, pos := "more.go:34", after := #[{ on := 13, ground := Go.Ground.data }, { on := 10, ground := Go.Ground.guard }], guard := some (10, true) }) (v := ?vsc_14) rfl (by kernel_rfl) (by kernel_rfl) (by kernel_rfl) (fun _ _ _ h => h) (Or.inl ⟨by rfl, ?ysc_14⟩) (by assumption) ?rsc_14
          case ysc_14 => (intro w hSw; (try dsimp only at hSw); go_simp; (try with_reducible rfl))
          (try simp only [Act.put, List.setIfInBounds_toArray, List.set_cons_zero, List.set_cons_succ])
          refine wpAnyH_ready (rs := [15]) (by kernel_rfl) (by simp) ?_
          refine AllReadyH.cons (o := { dst := some 79, op := Go.Op.call { callee := Go.Callee.value (Go.Operand.func 20), args := #[Go.Operand.tmp 76, Go.Operand.tmp 78], argTypes := #[23, 3] }, type := 3, pos := "more.go:34", after := #[{ on := 12, ground := Go.Ground.data }, { on := 14, ground := Go.Ground.data }, { on := 10, ground := Go.Ground.chain }, { on := 10, ground := Go.Ground.guard }], guard := some (10, true) }) rfl (fun K hK => ?_) AllReadyH.nil
          go_simp
          refine (Tells.of (top_any W D J S q _) (v' := .int .i64 b) (by rw [HOB.out])).mono ?_
          rintro e w' ⟨rfl, hb⟩
          go_wp2_with fail
          refine hK.out _ _ (held_call HK.out (fun _ h => h.2.2.2.2.2.2.2.2.2) hb hHeld) (fun hHeld2 => ?_)
          clear hK K hHeld
          have hHeld := hHeld2
          clear hHeld2
          (try simp only [Act.put, List.setIfInBounds_toArray, List.set_cons_zero, List.set_cons_succ])
          refine wpAnyH_take (i := 16) (oi := { dst := some 80, op := Go.Op.binOp Go.BinOp.eql 3 (Go.Operand.tmp 75) (Go.Operand.tmp 79) 3, type := 4, pos := "more.go:34", after := #[{ on := 11, ground := Go.Ground.data }, { on := 15, ground := Go.Ground.data }, { on := 10, ground := Go.Ground.guard }], guard := some (10, true) }) (v := ?vsc_16) rfl (by kernel_rfl) (by kernel_rfl) (by kernel_rfl) (fun _ _ _ h => h) (Or.inl ⟨by rfl, ?ysc_16⟩) (by assumption) ?rsc_16
          case ysc_16 => (intro w hSw; (try dsimp only at hSw); go_simp; (try with_reducible rfl))
          (try simp only [Act.put, List.setIfInBounds_toArray, List.set_cons_zero, List.set_cons_succ])
          refine wpAnyH_take (i := 17) (oi := { dst := some 81, op := Go.Op.pick (Go.Operand.tmp 74) (Go.Operand.tmp 80) (Go.Operand.const (Go.Value.bool false)), type := 4, pos := "more.go:34", after := #[{ on := 10, ground := Go.Ground.data }, { on := 16, ground := Go.Ground.data }, { on := 7, ground := Go.Ground.guard }], guard := some (7, false) }) (v := ?vsc_17) rfl (by kernel_rfl) (by kernel_rfl) (by kernel_rfl) (fun _ _ _ h => h) (Or.inl ⟨by rfl, ?ysc_17⟩) (by assumption) ?rsc_17
          case ysc_17 => (intro w hSw; (try dsimp only at hSw); go_simp; (try with_reducible rfl))
          (try simp only [Act.put, List.setIfInBounds_toArray, List.set_cons_zero, List.set_cons_succ])
          refine wpAnyH_take (i := 18) (oi := { dst := some 82, op := Go.Op.move (Go.Operand.tmp 81), type := 4, pos := "more.go:34", after := #[{ on := 17, ground := Go.Ground.data }, { on := 15, ground := Go.Ground.chain }, { on := 7, ground := Go.Ground.guard }], guard := some (7, false) }) (v := ?vsc_18) rfl (by kernel_rfl) (by kernel_rfl) (by kernel_rfl) (fun _ _ _ h => h) (Or.inl ⟨by rfl, ?ysc_18⟩) (by assumption) ?rsc_18
          case ysc_18 => (intro w hSw; (try dsimp only at hSw); go_simp; (try with_reducible rfl))
          (try simp only [Act.put, List.setIfInBounds_toArray, List.set_cons_zero, List.set_cons_succ])
          refine wpAnyH_take (i := 19) (oi := { dst := some 83, op := Go.Op.fieldAddr 28 (Go.Operand.tmp 5) 1, type := 0, pos := "more.go:34", after := #[{ on := 18, ground := Go.Ground.guard }], guard := some (18, true) }) (v := ?vsc_19) rfl (by kernel_rfl) (by kernel_rfl) (by kernel_rfl) (fun _ _ _ h => h) (Or.inl ⟨by rfl, ?ysc_19⟩) (by assumption) ?rsc_19
          case ysc_19 => (intro w hSw; (try dsimp only at hSw); go_simp; (try with_reducible rfl))
          (try simp only [Act.put, List.setIfInBounds_toArray, List.set_cons_zero, List.set_cons_succ])
          refine wpAnyH_take (i := 20) (oi := { dst := some 84, op := Go.Op.load 3 (Go.Operand.tmp 83), type := 3, pos := "more.go:34", after := #[{ on := 19, ground := Go.Ground.data }, { on := 18, ground := Go.Ground.guard }], guard := some (18, true) }) (v := ?vsc_20) rfl (by kernel_rfl) (by kernel_rfl) (by kernel_rfl) (fun _ _ _ h => h) (Or.inl ⟨by rfl, ?ysc_20⟩) (by assumption) ?rsc_20
          case ysc_20 => (intro w hSw; (try dsimp only at hSw); go_simp; (try with_reducible rfl))
          (try simp only [Act.put, List.setIfInBounds_toArray, List.set_cons_zero, List.set_cons_succ])
          refine wpAnyH_take (i := 21) (oi := { dst := some 85, op := Go.Op.binOp Go.BinOp.eql 3 (Go.Operand.tmp 84) (Go.Operand.const (Go.Value.int Go.IntKind.i64 3)) 3, type := 4, pos := "more.go:34", after := #[{ on := 20, ground := Go.Ground.data }, { on := 18, ground := Go.Ground.guard }], guard := some (18, true) }) (v := ?vsc_21) rfl (by kernel_rfl) (by kernel_rfl) (by kernel_rfl) (fun _ _ _ h => h) (Or.inl ⟨by rfl, ?ysc_21⟩) (by assumption) ?rsc_21
          case ysc_21 => (intro w hSw; (try dsimp only at hSw); go_simp; (try with_reducible rfl))
          (try simp only [Act.put, List.setIfInBounds_toArray, List.set_cons_zero, List.set_cons_succ])
          refine wpAnyH_take (i := 22) (oi := { dst := some 86, op := Go.Op.pick (Go.Operand.tmp 82) (Go.Operand.tmp 85) (Go.Operand.const (Go.Value.bool false)), type := 4, pos := "more.go:34", after := #[{ on := 18, ground := Go.Ground.data }, { on := 21, ground := Go.Ground.data }, { on := 7, ground := Go.Ground.guard }], guard := some (7, false) }) (v := ?vsc_22) rfl (by kernel_rfl) (by kernel_rfl) (by kernel_rfl) (fun _ _ _ h => h) (Or.inl ⟨by rfl, ?ysc_22⟩) (by assumption) ?rsc_22
          case ysc_22 => (intro w hSw; (try dsimp only at hSw); go_simp; (try with_reducible rfl))
          (try simp only [Act.put, List.setIfInBounds_toArray, List.set_cons_zero, List.set_cons_succ])
          refine wpAnyH_take (i := 23) (oi := { dst := some 87, op := Go.Op.move (Go.Operand.tmp 86), type := 4, pos := "more.go:34", after := #[{ on := 22, ground := Go.Ground.data }, { on := 18, ground := Go.Ground.chain }, { on := 7, ground := Go.Ground.guard }], guard := some (7, false) }) (v := ?vsc_23) rfl (by kernel_rfl) (by kernel_rfl) (by kernel_rfl) (fun _ _ _ h => h) (Or.inl ⟨by rfl, ?ysc_23⟩) (by assumption) ?rsc_23
          case ysc_23 => (intro w hSw; (try dsimp only at hSw); go_simp; (try with_reducible rfl))
          (try simp only [Act.put, List.setIfInBounds_toArray, List.set_cons_zero, List.set_cons_succ])
          refine wpAnyH_take (i := 24) (oi := { dst := some 88, op := Go.Op.fieldAddr 28 (Go.Operand.tmp 9) 6, type := 0, pos := "more.go:34", after := #[{ on := 23, ground := Go.Ground.guard }], guard := some (23, true) }) (v := ?vsc_24) rfl (by kernel_rfl) (by kernel_rfl) (by kernel_rfl) (fun _ _ _ h => h) (Or.inl ⟨by rfl, ?ysc_24⟩) (by assumption) ?rsc_24
          case ysc_24 => (intro w hSw; (try dsimp only at hSw); go_simp; (try with_reducible rfl))
          (try simp only [Act.put, List.setIfInBounds_toArray, List.set_cons_zero, List.set_cons_succ])
          refine wpAnyH_take (i := 25) (oi := { dst := some 89, op := Go.Op.load 3 (Go.Operand.tmp 88), type := 3, pos := "more.go:34", after := #[{ on := 24, ground := Go.Ground.data }, { on := 23, ground := Go.Ground.guard }], guard := some (23, true) }) (v := ?vsc_25) rfl (by kernel_rfl) (by kernel_rfl) (by kernel_rfl) (fun _ _ _ h => h) (Or.inl ⟨by rfl, ?ysc_25⟩) (by assumption) ?rsc_25
          case ysc_25 => (intro w hSw; (try dsimp only at hSw); go_simp; (try with_reducible rfl))
          (try simp only [Act.put, List.setIfInBounds_toArray, List.set_cons_zero, List.set_cons_succ])
          refine wpAnyH_take (i := 26) (oi := { dst := some 90, op := Go.Op.binOp Go.BinOp.eql 3 (Go.Operand.tmp 89) (Go.Operand.const (Go.Value.int Go.IntKind.i64 1)) 3, type := 4, pos := "more.go:34", after := #[{ on := 25, ground := Go.Ground.data }, { on := 23, ground := Go.Ground.guard }], guard := some (23, true) }) (v := ?vsc_26) rfl (by kernel_rfl) (by kernel_rfl) (by kernel_rfl) (fun _ _ _ h => h) (Or.inl ⟨by rfl, ?ysc_26⟩) (by assumption) ?rsc_26
          case ysc_26 => (intro w hSw; (try dsimp only at hSw); go_simp; (try with_reducible rfl))
          (try simp only [Act.put, List.setIfInBounds_toArray, List.set_cons_zero, List.set_cons_succ])
          refine wpAnyH_take (i := 27) (oi := { dst := some 91, op := Go.Op.pick (Go.Operand.tmp 87) (Go.Operand.tmp 90) (Go.Operand.const (Go.Value.bool false)), type := 4, pos := "more.go:34", after := #[{ on := 23, ground := Go.Ground.data }, { on := 26, ground := Go.Ground.data }, { on := 7, ground := Go.Ground.guard }], guard := some (7, false) }) (v := ?vsc_27) rfl (by kernel_rfl) (by kernel_rfl) (by kernel_rfl) (fun _ _ _ h => h) (Or.inl ⟨by rfl, ?ysc_27⟩) (by assumption) ?rsc_27
          case ysc_27 => (intro w hSw; (try dsimp only at hSw); go_simp; (try with_reducible rfl))
          (try simp only [Act.put, List.setIfInBounds_toArray, List.set_cons_zero, List.set_cons_succ])
          refine wpAnyH_take (i := 28) (oi := { dst := some 92, op := Go.Op.move (Go.Operand.tmp 91), type := 4, pos := "more.go:34", after := #[{ on := 27, ground := Go.Ground.data }, { on := 23, ground := Go.Ground.chain }, { on := 7, ground := Go.Ground.guard }], guard := some (7, false) }) (v := ?vsc_28) rfl (by kernel_rfl) (by kernel_rfl) (by kernel_rfl) (fun _ _ _ h => h) (Or.inl ⟨by rfl, ?ysc_28⟩) (by assumption) ?rsc_28
          case ysc_28 => (intro w hSw; (try dsimp only at hSw); go_simp; (try with_reducible rfl))
          (try simp only [Act.put, List.setIfInBounds_toArray, List.set_cons_zero, List.set_cons_succ])
          refine wpAnyH_take (i := 29) (oi := { dst := some 93, op := Go.Op.move (Go.Operand.tmp 8), type := 25, pos := "more.go:34", after := #[{ on := 28, ground := Go.Ground.guard }], guard := some (28, true) }) (v := ?vsc_29) rfl (by kernel_rfl) (by kernel_rfl) (by kernel_rfl) (fun _ _ _ h => h) (Or.inl ⟨by rfl, ?ysc_29⟩) (by assumption) ?rsc_29
          case ysc_29 => (intro w hSw; (try dsimp only at hSw); go_simp; (try with_reducible rfl))
          (try simp only [Act.put, List.setIfInBounds_toArray, List.set_cons_zero, List.set_cons_succ])
          refine wpAnyH_take (i := 30) (oi := { dst := some 94, op := Go.Op.move (Go.Operand.tmp 11), type := 3, pos := "more.go:34", after := #[{ on := 28, ground := Go.Ground.guard }], guard := some (28, true) }) (v := ?vsc_30) rfl (by kernel_rfl) (by kernel_rfl) (by kernel_rfl) (fun _ _ _ h => h) (Or.inl ⟨by rfl, ?ysc_30⟩) (by assumption) ?rsc_30
          case ysc_30 => (intro w hSw; (try dsimp only at hSw); go_simp; (try with_reducible rfl))
          (try simp only [Act.put, List.setIfInBounds_toArray, List.set_cons_zero, List.set_cons_succ])
          refine wpAnyH_take (i := 31) (oi := { dst := some 95, op := Go.Op.indexAddr 25 (Go.Operand.tmp 93) (Go.Operand.tmp 94), type := 0, pos := "more.go:34", after := #[{ on := 29, ground := Go.Ground.data }, { on := 30, ground := Go.Ground.data }, { on := 28, ground := Go.Ground.guard }], guard := some (28, true) }) (v := ?vsc_31) rfl (by kernel_rfl) (by kernel_rfl) (by kernel_rfl) (fun _ _ _ h => h) (Or.inl ⟨by rfl, ?ysc_31⟩) (by assumption) ?rsc_31
          case ysc_31 => (intro w hSw; (try dsimp only at hSw); go_simp; (try with_reducible rfl))
          (try simp only [Act.put, List.setIfInBounds_toArray, List.set_cons_zero, List.set_cons_succ])
          refine wpAnyH_take (i := 32) (oi := { dst := some 96, op := Go.Op.load 26 (Go.Operand.tmp 95), type := 26, pos := "more.go:34", after := #[{ on := 31, ground := Go.Ground.data }, { on := 28, ground := Go.Ground.guard }], guard := some (28, true) }) (v := ?vsc_32) rfl (by kernel_rfl) (by kernel_rfl) (by kernel_rfl) (fun _ _ _ h => h) (Or.inl ⟨by rfl, ?ysc_32⟩) (by assumption) ?rsc_32
          case ysc_32 => (intro w hSw; (try dsimp only at hSw); go_simp; (try with_reducible rfl))
          (try simp only [Act.put, List.setIfInBounds_toArray, List.set_cons_zero, List.set_cons_succ])
          refine wpAnyH_take (i := 33) (oi := { dst := some 97, op := Go.Op.move (Go.Operand.tmp 1), type := 25, pos := "more.go:34", after := #[{ on := 28, ground := Go.Ground.guard }], guard := some (28, true) }) (v := ?vsc_33) rfl (by kernel_rfl) (by kernel_rfl) (by kernel_rfl) (fun _ _ _ h => h) (Or.inl ⟨by rfl, ?ysc_33⟩) (by assumption) ?rsc_33
          case ysc_33 => (intro w hSw; (try dsimp only at hSw); go_simp; (try with_reducible rfl))
          (try simp only [Act.put, List.setIfInBounds_toArray, List.set_cons_zero, List.set_cons_succ])
          refine wpAnyH_take (i := 34) (oi := { dst := some 98, op := Go.Op.move (Go.Operand.tmp 11), type := 3, pos := "more.go:34", after := #[{ on := 28, ground := Go.Ground.guard }], guard := some (28, true) }) (v := ?vsc_34) rfl (by kernel_rfl) (by kernel_rfl) (by kernel_rfl) (fun _ _ _ h => h) (Or.inl ⟨by rfl, ?ysc_34⟩) (by assumption) ?rsc_34
          case ysc_34 => (intro w hSw; (try dsimp only at hSw); go_simp; (try with_reducible rfl))
          (try simp only [Act.put, List.setIfInBounds_toArray, List.set_cons_zero, List.set_cons_succ])
          refine wpAnyH_take (i := 35) (oi := { dst := some 99, op := Go.Op.indexAddr 25 (Go.Operand.tmp 97) (Go.Operand.tmp 98), type := 0, pos := "more.go:34", after := #[{ on := 33, ground := Go.Ground.data }, { on := 34, ground := Go.Ground.data }, { on := 28, ground := Go.Ground.guard }], guard := some (28, true) }) (v := ?vsc_35) rfl (by kernel_rfl) (by kernel_rfl) (by kernel_rfl) (fun _ _ _ h => h) (Or.inl ⟨by rfl, ?ysc_35⟩) (by assumption) ?rsc_35
          case ysc_35 => (intro w hSw; (try dsimp only at hSw); go_simp; (try with_reducible rfl))
          (try simp only [Act.put, List.setIfInBounds_toArray, List.set_cons_zero, List.set_cons_succ])
          refine wpAnyH_take (i := 36) (oi := { dst := some 100, op := Go.Op.load 26 (Go.Operand.tmp 99), type := 26, pos := "more.go:34", after := #[{ on := 35, ground := Go.Ground.data }, { on := 28, ground := Go.Ground.guard }], guard := some (28, true) }) (v := ?vsc_36) rfl (by kernel_rfl) (by kernel_rfl) (by kernel_rfl) (fun _ _ _ h => h) (Or.inl ⟨by rfl, ?ysc_36⟩) (by assumption) ?rsc_36
          case ysc_36 => (intro w hSw; (try dsimp only at hSw); go_simp; (try with_reducible rfl))
          (try simp only [Act.put, List.setIfInBounds_toArray, List.set_cons_zero, List.set_cons_succ])
          refine wpAnyH_take (i := 37) (oi := { dst := some 101, op := Go.Op.binOp Go.BinOp.add 26 (Go.Operand.tmp 100) (Go.Operand.const (Go.Value.int Go.IntKind.u64 1)) 26, type := 26, pos := "more.go:34", after := #[{ on := 36, ground := Go.Ground.data }, { on := 28, ground := Go.Ground.guard }], guard := some (28, true) }) (v := ?vsc_37) rfl (by kernel_rfl) (by kernel_rfl) (by kernel_rfl) (fun _ _ _ h => h) (Or.inl ⟨by rfl, ?ysc_37⟩) (by assumption) ?rsc_37
          case ysc_37 => (intro w hSw; (try dsimp only at hSw); go_simp; (try with_reducible rfl))
          (try simp only [Act.put, List.setIfInBounds_toArray, List.set_cons_zero, List.set_cons_succ])
          refine wpAnyH_take (i := 38) (oi := { dst := some 102, op := Go.Op.binOp Go.BinOp.eql 26 (Go.Operand.tmp 96) (Go.Operand.tmp 101) 26, type := 4, pos := "more.go:34", after := #[{ on := 32, ground := Go.Ground.data }, { on := 37, ground := Go.Ground.data }, { on := 28, ground := Go.Ground.guard }], guard := some (28, true) }) (v := ?vsc_38) rfl (by kernel_rfl) (by kernel_rfl) (by kernel_rfl) (fun _ _ _ h => h) (Or.inl ⟨by rfl, ?ysc_38⟩) (by assumption) ?rsc_38
          case ysc_38 => (intro w hSw; (try dsimp only at hSw); go_simp; (try with_reducible rfl))
          (try simp only [Act.put, List.setIfInBounds_toArray, List.set_cons_zero, List.set_cons_succ])
          refine wpAnyH_take (i := 39) (oi := { dst := some 103, op := Go.Op.pick (Go.Operand.tmp 92) (Go.Operand.tmp 102) (Go.Operand.const (Go.Value.bool false)), type := 4, pos := "more.go:34", after := #[{ on := 28, ground := Go.Ground.data }, { on := 38, ground := Go.Ground.data }, { on := 7, ground := Go.Ground.guard }], guard := some (7, false) }) (v := ?vsc_39) rfl (by kernel_rfl) (by kernel_rfl) (by kernel_rfl) (fun _ _ _ h => h) (Or.inl ⟨by rfl, ?ysc_39⟩) (by assumption) ?rsc_39
          case ysc_39 => (intro w hSw; (try dsimp only at hSw); go_simp; (try with_reducible rfl))
          (try simp only [Act.put, List.setIfInBounds_toArray, List.set_cons_zero, List.set_cons_succ])
          refine wpAnyH_take (i := 40) (oi := { dst := some 104, op := Go.Op.pick (Go.Operand.tmp 71) (Go.Operand.const (Go.Value.bool true)) (Go.Operand.tmp 103), type := 4, pos := "more.go:34", after := #[{ on := 7, ground := Go.Ground.data }, { on := 39, ground := Go.Ground.data }], guard := none }) (v := ?vsc_40) rfl (by kernel_rfl) (by kernel_rfl) (by kernel_rfl) (fun _ _ _ h => h) (Or.inl ⟨by rfl, ?ysc_40⟩) (by assumption) ?rsc_40
          case ysc_40 => (intro w hSw; (try dsimp only at hSw); go_simp; (try with_reducible rfl))
          (try simp only [Act.put, List.setIfInBounds_toArray, List.set_cons_zero, List.set_cons_succ])
          refine wpAnyH_take (i := 41) (oi := { dst := some 6, op := Go.Op.assign (Go.Operand.tmp 104), type := 4, pos := "more.go:34", after := #[{ on := 40, ground := Go.Ground.data }, { on := 28, ground := Go.Ground.chain }, { on := 0, ground := Go.Ground.phase }, { on := 1, ground := Go.Ground.phase }, { on := 2, ground := Go.Ground.phase }, { on := 3, ground := Go.Ground.phase }, { on := 4, ground := Go.Ground.phase }, { on := 5, ground := Go.Ground.phase }, { on := 6, ground := Go.Ground.phase }, { on := 7, ground := Go.Ground.phase }, { on := 8, ground := Go.Ground.phase }, { on := 9, ground := Go.Ground.phase }, { on := 10, ground := Go.Ground.phase }, { on := 11, ground := Go.Ground.phase }, { on := 12, ground := Go.Ground.phase }, { on := 13, ground := Go.Ground.phase }, { on := 14, ground := Go.Ground.phase }, { on := 15, ground := Go.Ground.phase }, { on := 16, ground := Go.Ground.phase }, { on := 17, ground := Go.Ground.phase }, { on := 18, ground := Go.Ground.phase }, { on := 19, ground := Go.Ground.phase }, { on := 20, ground := Go.Ground.phase }, { on := 21, ground := Go.Ground.phase }, { on := 22, ground := Go.Ground.phase }, { on := 23, ground := Go.Ground.phase }, { on := 24, ground := Go.Ground.phase }, { on := 25, ground := Go.Ground.phase }, { on := 26, ground := Go.Ground.phase }, { on := 27, ground := Go.Ground.phase }, { on := 28, ground := Go.Ground.phase }, { on := 29, ground := Go.Ground.phase }, { on := 30, ground := Go.Ground.phase }, { on := 31, ground := Go.Ground.phase }, { on := 32, ground := Go.Ground.phase }, { on := 33, ground := Go.Ground.phase }, { on := 34, ground := Go.Ground.phase }, { on := 35, ground := Go.Ground.phase }, { on := 36, ground := Go.Ground.phase }, { on := 37, ground := Go.Ground.phase }, { on := 38, ground := Go.Ground.phase }, { on := 39, ground := Go.Ground.phase }, { on := 40, ground := Go.Ground.phase }], guard := none }) (v := ?vsc_41) rfl (by kernel_rfl) (by kernel_rfl) (by kernel_rfl) (fun _ _ _ h => h) (Or.inl ⟨by rfl, ?ysc_41⟩) (by assumption) ?rsc_41
          case ysc_41 => (intro w hSw; (try dsimp only at hSw); go_simp; (try with_reducible rfl))
          (try simp only [Act.put, List.setIfInBounds_toArray, List.set_cons_zero, List.set_cons_succ])
          refine wpAnyH_done (by kernel_rfl) ?_ _
          go_wp2
          go_ret
          exact ⟨rfl, Z.out.trans ((hHeld.2.2.2.2.2.2.2.2.2).mono Z.out.size)⟩
theorem cells_walk (W D J S : Int) (A : Option Addr) (n c : Nat) (m : List Int) (f : Fr) (w : World) (hm : Rd w A m) (hn : m.length = n) (hu : UM m) (hf : UF f) : Tells 6 #[cf W D J S, .slice A n c, fv f] w (.bool true) := by
  by_cases hs : n ≤ 500
  · exact cells_main W D J S A n c m f w hm hn hs hu hf
  · exact cells_big W D J S A n c f w (by omega)
end Go.Proofs.Ytomlgglcfbdimaa
