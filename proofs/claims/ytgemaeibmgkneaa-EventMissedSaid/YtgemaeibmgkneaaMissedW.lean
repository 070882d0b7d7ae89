/- EventMissed. -/
import Derived.Test.YtgemaeibmgkneaaEvS
import Derived.Test.YtgemaeibmgkneaaCuL
namespace Go.Proofs.Ytgemaeibmgkneaa
open Go.RowKit Go.Deep Go.Shelf
set_option maxHeartbeats 4000000 in
set_option maxRecDepth 100000 in
theorem missed_any (A B : Option Addr) (nc cc nw cw : Nat) (x : Int) (all : Bool) (calls : List (List Int)) (who : List Int) (w : World) (hA : Rl w A calls) (hB : Ri w B who) (hnc : calls.length = nc) (hnw : who.length = nw) :
    Tells 5 #[.slice A nc cc, .slice B nw cw, .int .i64 x, .bool all] w (.bool true) := by
  have HA := Lib.hid hA
  have HB := Lib.hid hB
  have HNC := Lib.hid hnc
  have HNW := Lib.hid hnw
  clear hA hB hnc hnw
  go_enter Try.func5, Try.ntmps5
  go_wp2_with fail
  refine (awake_any w).mono ?_
  rintro _ w1 ⟨rfl, z1⟩
  have HA1 := Lib.hid (HA.out.below z1)
  have HB1 := Lib.hid (HB.out.below z1)
  have Z1 := Lib.hid z1
  clear z1 HA HB
  go_wp2_with fail
  refine (few_any A nc cc calls w1 HA1.out HNC.out).mono ?_
  rintro _ w2 ⟨rfl, z2⟩
  have HA2 := Lib.hid (HA1.out.below z2)
  have HB2 := Lib.hid (HB1.out.below z2)
  have Z2 := Lib.hid (Z1.out.trans (z2.mono Z1.out.size))
  clear z2 HA1 HB1 Z1
  cases hf : fewE calls
  · clear hf
    go_wp2
    go_ret
    exact ⟨rfl, Z2.out⟩
  obtain ⟨h10, h30⟩ := fewE_of hf
  rw [HNC.out] at h10
  have H30 := Lib.hid (show ∀ l ∈ calls, l.length ≤ 500 from fun l hl => Nat.le_trans (h30 l hl) (by omega))
  have H31 := Lib.hid h30
  clear hf h30
  by_cases hn : 500 < nw
  · have d1 : decide ((nw : Int) > 500) = true := decide_eq_true (by omega)
    clear hn
    go_wp2
    go_ret
    exact ⟨rfl, Z2.out⟩
  have d1 : decide ((nw : Int) > 500) = false := decide_eq_false (by omega)
  by_cases hx0 : x < 0
  · have dhx0 : decide (x < 0) = true := decide_eq_true (by omega)
    clear hx0
    go_wp2
    go_ret
    exact ⟨rfl, Z2.out⟩
  have dhx0 : decide (x < 0) = false := decide_eq_false (by omega)
  by_cases hxn : (nc : Int) ≤ x
  · have dhxn : decide (x ≥ (nc : Int)) = true := decide_eq_true (by omega)
    clear hxn
    go_wp2
    go_ret
    exact ⟨rfl, Z2.out⟩
  have dhxn : decide (x ≥ (nc : Int)) = false := decide_eq_false (by omega)
  by_cases h8 : 8 < nc
  · have dh8 : decide ((nc : Int) > 8) = true := decide_eq_true (by omega)
    clear h8
    go_wp2
    go_ret
    exact ⟨rfl, Z2.out⟩
  have dh8 : decide ((nc : Int) > 8) = false := decide_eq_false (by omega)
  obtain ⟨k, rfl⟩ := Int.eq_ofNat_of_zero_le (show 0 ≤ x by omega)
  have Hn := HNC.out
  have hk : k < nc := by omega
  have hm : may nc 1 1 0 = true := may1_iff.2 ⟨by omega, by omega⟩
  have hm2 : may calls.length 1 1 0 = true := by rw [Hn]; exact hm
  have HM := Lib.hid hm
  have B1 := Bx.mk w2 nc 1 1 0 36
  have y1 := bel_alloc w2 (.cells #[.int .i64 nc, .int .i64 1, .int .i64 1, .int .i64 0] 36)
  go_upto_region 6 with fail
  change Code.wp _ _ _ _ (w2.alloc (.cells #[.int .i64 nc, .int .i64 1, .int .i64 1, .int .i64 0] 36))
  generalize w2.alloc (.cells #[.int .i64 nc, .int .i64 1, .int .i64 1, .int .i64 0] 36) = w3 at B1 y1 ⊢
  have HA3 := Lib.hid (HA2.out.below y1)
  have HB3 := Lib.hid (HB2.out.below y1)
  have Z3 := Lib.hid (Z2.out.trans (y1.mono Z2.out.size))
  have hg2 := Z2.out.size
  obtain ⟨g0, hg0⟩ : ∃ g0, w2.heap.size = g0 := ⟨_, rfl⟩
  rw [hg0] at B1 hg2 ⊢
  have HB1 := Lib.hid B1
  clear y1 B1 hg0 HA2 HB2 Z2 dhx0 dhxn dh8 d1
  go_wp2_with fail
  obtain ⟨⟨m, a, over⟩, hpl⟩ : ∃ s, plE calls who = s := ⟨_, rfl⟩
  refine (play_n HA3.out HB3.out HNC.out HNW.out (by omega) H30.out hpl).mono ?_
  rintro _ w4 ⟨Am, cm, Ao, co, Aa, ca, rfl, rm, ro, hco, ra, hca, z4⟩
  have HA4 := Lib.hid (HA3.out.below z4)
  have HB4 := Lib.hid (HB3.out.below z4)
  have Z4 := Lib.hid (Z3.out.trans (z4.mono Z3.out.size))
  have RM := Lib.hid rm
  have RO := Lib.hid ro
  have RA := Lib.hid ra
  have HPL := Lib.hid hpl
  have HBX := Lib.hid (HB1.out.below z4)
  clear rm ro ra hco hca z4 hpl HA3 HB3 Z3
  have hp := HPL.out
  rw [plE_yes hm2] at hp
  have hal := playE_al calls who
  have hsi := (HE.play (calls := calls) (by omega) (by omega) who (by rw [HNW.out]; omega)).si
  simp only [Prod.mk.injEq] at hp
  obtain ⟨e1, e2, e3⟩ := hp
  rw [e2] at hal hsi
  rw [e1] at hsi
  rw [Hn] at hal hsi
  have HSI := Lib.hid hsi
  have HML := Lib.hid (show m.length ≤ 500 by
    have h1 := (plE_len calls who H30.out).1
    rw [HPL.out] at h1
    exact h1)
  have hl : k < a.length := by rw [hal]; exact hk
  obtain ⟨b, off, rfl, hb, hC⟩ := RA.out.at hl
  have hg : a[k] = a.getD k fnE := by rw [List.getD_eq_getElem?_getD, List.getElem?_eq_getElem hl]; rfl
  rw [hg] at hC
  obtain ⟨f, hf⟩ : ∃ f, a.getD k fnE = f := ⟨_, rfl⟩
  rw [hf] at hC
  have HF := Lib.hid hf
  obtain ⟨nm, hnm⟩ : ∃ nm, m.length = nm := ⟨_, rfl⟩
  have HNM := Lib.hid hnm
  have HAL := Lib.hid hal
  rw [hnm, hal]
  clear hsi e1 e2 e3 hg hl hf hnm hm hm2 hal RO
  obtain ⟨o, p, q, v, xx, y, s⟩ := f
  obtain ⟨a0, a1, a2, a3, a4, a5, a6⟩ := hC
  simp only at a0 a1 a2 a3 a4 a5 a6
  have d4 : decide ((k : Int) ≥ (nc : Int)) = false := decide_eq_false (by omega)
  have d4' : decide ((k : Int) < (nc : Int)) = true := decide_eq_true (by omega)
  by_cases h5 : o = 5
  rotate_left
  · have e5 : (o == 5) = false := by simpa using h5
    have e5' : (o != 5) = true := by simpa using h5
    clear h5
    go_wp2
    go_ret
    exact ⟨rfl, Z4.out⟩
  obtain rfl := h5
  by_cases h1 : p = 1
  rotate_left
  · have e5' : (p != 1) = true := by simpa using h1
    clear h1
    go_wp2
    go_ret
    exact ⟨rfl, Z4.out⟩
  obtain rfl := h1
  have hfi := HSI.out.at hk HF.out (by show (5 : Int) ≠ -1; decide)
  obtain rfl : s = 0 := hfi.res
  obtain rfl : q = k := hfi.who
  have HUF := Lib.hid hfi.uf
  clear hfi
  have HCC := Lib.hid (show ∀ x, Below w4.heap.size w4 x → C7 x b (off + k * 7) ⟨5, 1, k, v, xx, y, 0⟩ from fun x hx => (C7.mk a0 a1 a2 a3 a4 a5 a6).same (hx.block b hb))
  cases all
  · go_wp2_with fail
    refine (begin_any 6 k 0 _).mono ?_
    rintro _ w5 ⟨rfl, z5⟩
    have y5 := bel_alloc w5 (.cells #[.int .i64 6, .int .i64 0, .int .i64 k, .int .u64 0, .int .u64 0, .int .u64 0, .int .i64 0] 34)
    have F5 : Bf (w5.alloc (.cells #[.int .i64 6, .int .i64 0, .int .i64 k, .int .u64 0, .int .u64 0, .int .u64 0, .int .i64 0] 34)) w5.heap.size (fbg 6 k 0) := heap_alloc_new _ _
    have h45 := z5.size
    have y6 := z5.trans (y5.mono h45)
    go_upto_region 10 with fail
    change Code.wp _ _ _ _ (w5.alloc (.cells #[.int .i64 6, .int .i64 0, .int .i64 k, .int .u64 0, .int .u64 0, .int .u64 0, .int .i64 0] 34))
    generalize w5.alloc (.cells #[.int .i64 6, .int .i64 0, .int .i64 k, .int .u64 0, .int .u64 0, .int .u64 0, .int .i64 0] 34) = w6 at F5 y6 ⊢
    generalize w5.heap.size = h at F5 h45 ⊢
    have hlt := F5.lt
    have F8 := Lib.hid F5
    have Y8 := Lib.hid y6
    clear z5 y5 y6 F5 hlt a0 a1 a2 a3 a4 a5 a6
    go_wp2
    go_loopw [12, 16] (fun u x wr => ∃ (j : Nat) (A : Option Addr) (c : Nat), u = .slice A nm c ∧ x = .int .i64 j ∧ j ≤ 20 ∧ Hid (Rd wr A (itN (noteS nc 1 1 0) j (m, fbg 6 k 0)).1) ∧ Hid (Bf wr h (itN (noteS nc 1 1 0) j (m, fbg 6 k 0)).2) ∧ Hid (Below w4.heap.size w4 wr)) (fun _ x _ => 20 - (intOf x).toNat)
    case atStart => exact ⟨0, Am, cm, rfl, rfl, by omega, Lib.hid (RM.out.below Y8.out), F8, Y8⟩
    case round =>
      clear F8 Y8
      obtain ⟨j, A1, c1, rfl, rfl, hj, hR, hF, hY⟩ := hrel
      have hNL := noteN_len nc 1 1 0 j (m, fbg 6 k 0)
      have hNU := noteN_U (W := nc) (D := 1) (J := 1) (S := 0) (s := (m, fbg 6 k 0)) HSI.out.um (by unfold UF U fbg; simp) j
      obtain ⟨⟨l1, f1⟩, hs1⟩ : ∃ s, itN (noteS nc 1 1 0) j (m, fbg 6 k 0) = s := ⟨_, rfl⟩
      rw [hs1] at hNL hNU hR hF
      simp only at hNL hNU hR hF
      rw [HNM.out] at hNL
      obtain ⟨_, b0, b1, b2, b3⟩ := HBX.out.below hY.out
      by_cases hlt : j < 20
      · have d5 : decide ((j : Int) < 20) = true := decide_eq_true (by omega)
        obtain ⟨c0, c1', c2, c3, c4, c5, c6⟩ := hF.out.cells
        have lb := hF.out.lt
        obtain ⟨l2, f2, hs2⟩ : ∃ l2 f2, noteS nc 1 1 0 l1 f1 = (l2, f2) := ⟨_, _, rfl⟩
        have hs3 : itN (noteS nc 1 1 0) (j + 1) (m, fbg 6 k 0) = (l2, f2) := by rw [itN_succ, hs1]; exact hs2
        have HS3 := Lib.hid hs3
        have hnl := HML.out
        rw [HNM.out] at hnl
        have HGO := Lib.hid (note_n (c := c1) hR.out hNL hnl hNU.2 hs2)
        clear hs1 hs2 hs3 hNL hNU
        go_wp2_with fail
        refine HGO.out.mono ?_
        rintro _ x2 ⟨A2, c2', rfl, hr2, z2⟩
        have b5 := hF.out.below z2 lb
        have YY := Lib.hid (hY.out.trans (z2.mono hY.out.size))
        obtain ⟨r0, r1, r2, r3, r4, r5, r6⟩ := b5.cells
        have fr := b5.free
        have lr := b5.lt
        have B5 := Lib.hid b5
        have R2 := Lib.hid hr2
        have hlw : h < wr.heap.size := lb
        clear z2 b5 hr2 HGO hR hF hY c0 c1' c2 c3 c4 c5 c6 b0 b1 b2 b3 lb
        go_wp2
        go_roundw
        case rel => exact ⟨j + 1, A2, c2', rfl, by go_num, by omega, Lib.hid (by rw [HS3.out]; exact ((R2.out.pf hlw f2).mono (Nat.zero_le _)).rd), Lib.hid (by rw [HS3.out]; exact B5.out.pf f2), Lib.hid (below_pf YY.out h45 f2)⟩
        case measure => simp [intOf]; omega
      · obtain rfl : j = 20 := by omega
        have d5 : decide (((20 : Nat) : Int) < 20) = false := by decide
        obtain ⟨l', f', e20, hres, hwt⟩ := missed_E HSI.out (by rw [HNW.out]; omega) hk HF.out (show (6 : Int) = 6 ∨ (6 : Int) = 7 by decide) k
        rw [hs1] at e20
        cases e20
        have HRES := Lib.hid hres
        have hnl := HML.out
        rw [HNM.out] at hnl
        have HWT := Lib.hid (fun (x : World) (hx : Below wr.heap.size wr x) => wait_n (c := c1) (hR.out.below hx) hNL hnl HUF.out hwt)
        have HSZ := Lib.hid (show w4.heap.size ≤ wr.heap.size from hY.out.size)
        clear hs1 hNL hNU hres hwt hlt hj
        go_upto_region 16 with fail
        go_cut [17, 18] from 99 to 108 (fun x t wz => Hid (Cu wr nm l1 ⟨5, 0, k, 0, 0, 0, 4⟩ x t wz))
        case first =>
          have HKc := Lib.hid (show ∀ x', Below wr.heap.size wr x' → (fun w' => w'.cell? ⟨g0, 0, none⟩ = some (.int .i64 nc) ∧ w'.cell? ⟨g0, 1, none⟩ = some (.int .i64 1) ∧ w'.cell? ⟨g0, 2, none⟩ = some (.int .i64 1) ∧ w'.cell? ⟨g0, 3, none⟩ = some (.int .i64 0) ∧ w'.cell? ⟨b, off + k * 7, none⟩ = some (.int .i64 5) ∧ w'.cell? ⟨b, off + k * 7 + 1, none⟩ = some (.int .i64 1) ∧ w'.cell? ⟨b, off + k * 7 + 2, none⟩ = some (.int .i64 k) ∧ w'.cell? ⟨b, off + k * 7 + 3, none⟩ = some (.int .u64 v) ∧ w'.cell? ⟨b, off + k * 7 + 4, none⟩ = some (.int .u64 xx) ∧ w'.cell? ⟨b, off + k * 7 + 5, none⟩ = some (.int .u64 y) ∧ w'.cell? ⟨b, off + k * 7 + 6, none⟩ = some (.int .i64 0) ∧ Below wr.heap.size wr w') x' from fun x' hx => by
            obtain ⟨_, e0, e1, e2, e3⟩ := (HBX.out.below hY.out).below hx
            obtain ⟨k0, k1, k2, k3, k4, k5, k6⟩ := HCC.out x' (hY.out.trans (hx.mono HSZ.out))
            exact ⟨e0, e1, e2, e3, k0, k1, k2, k3, k4, k5, k6, hx⟩)
          have hHeld0 := HKc.out _ (Below.refl _ _)
          have ZC := Lib.hid (Below.refl wr.heap.size wr).drew
          clear b0 b1 b2 b3
          refine wp_region_held_drew (S := fun w' => w'.cell? ⟨g0, 0, none⟩ = some (.int .i64 nc) ∧ w'.cell? ⟨g0, 1, none⟩ = some (.int .i64 1) ∧ w'.cell? ⟨g0, 2, none⟩ = some (.int .i64 1) ∧ w'.cell? ⟨g0, 3, none⟩ = some (.int .i64 0) ∧ w'.cell? ⟨b, off + k * 7, none⟩ = some (.int .i64 5) ∧ w'.cell? ⟨b, off + k * 7 + 1, none⟩ = some (.int .i64 1) ∧ w'.cell? ⟨b, off + k * 7 + 2, none⟩ = some (.int .i64 k) ∧ w'.cell? ⟨b, off + k * 7 + 3, none⟩ = some (.int .u64 v) ∧ w'.cell? ⟨b, off + k * 7 + 4, none⟩ = some (.int .u64 xx) ∧ w'.cell? ⟨b, off + k * 7 + 5, none⟩ = some (.int .u64 y) ∧ w'.cell? ⟨b, off + k * 7 + 6, none⟩ = some (.int .i64 0) ∧ Below wr.heap.size wr w') (by kernel_rfl) (hd_drew HKc.out (fun _ h => h.2.2.2.2.2.2.2.2.2.2.2) hHeld0) (fun hHeld => ?_)
          refine wpAnyH_take (i := 0) (oi := { dst := some 100, op := Go.Op.load 36 (Go.Operand.tmp 11), type := 36, pos := "law.go:132", after := #[], guard := none }) (v := ?vm61) rfl (by kernel_rfl) (by kernel_rfl) (by kernel_rfl) (fun _ _ _ h => h) (Or.inl ⟨by rfl, ?ym61⟩) (by assumption) ?rm61
          case ym61 => (intro w hSw; (try dsimp only at hSw); go_simp; (try with_reducible rfl))
          (try simp only [Act.put, List.setIfInBounds_toArray, List.set_cons_zero, List.set_cons_succ])
          refine wpAnyH_take (i := 1) (oi := { dst := some 101, op := Go.Op.move (Go.Operand.tmp 12), type := 27, pos := "law.go:132", after := #[], guard := none }) (v := ?vm62) rfl (by kernel_rfl) (by kernel_rfl) (by kernel_rfl) (fun _ _ _ h => h) (Or.inl ⟨by rfl, ?ym62⟩) (by assumption) ?rm62
          case ym62 => (intro w hSw; (try dsimp only at hSw); go_simp; (try with_reducible rfl))
          (try simp only [Act.put, List.setIfInBounds_toArray, List.set_cons_zero, List.set_cons_succ])
          refine wpAnyH_take (i := 2) (oi := { dst := some 102, op := Go.Op.move (Go.Operand.tmp 14), type := 28, pos := "law.go:132", after := #[], guard := none }) (v := ?vm63) rfl (by kernel_rfl) (by kernel_rfl) (by kernel_rfl) (fun _ _ _ h => h) (Or.inl ⟨by rfl, ?ym63⟩) (by assumption) ?rm63
          case ym63 => (intro w hSw; (try dsimp only at hSw); go_simp; (try with_reducible rfl))
          (try simp only [Act.put, List.setIfInBounds_toArray, List.set_cons_zero, List.set_cons_succ])
          refine wpAnyH_take (i := 3) (oi := { dst := some 103, op := Go.Op.move (Go.Operand.tmp 2), type := 3, pos := "law.go:132", after := #[], guard := none }) (v := ?vm64) rfl (by kernel_rfl) (by kernel_rfl) (by kernel_rfl) (fun _ _ _ h => h) (Or.inl ⟨by rfl, ?ym64⟩) (by assumption) ?rm64
          case ym64 => (intro w hSw; (try dsimp only at hSw); go_simp; (try with_reducible rfl))
          (try simp only [Act.put, List.setIfInBounds_toArray, List.set_cons_zero, List.set_cons_succ])
          refine wpAnyH_take (i := 4) (oi := { dst := some 104, op := Go.Op.indexAddr 28 (Go.Operand.tmp 102) (Go.Operand.tmp 103), type := 0, pos := "law.go:132", after := #[{ on := 2, ground := Go.Ground.data }, { on := 3, ground := Go.Ground.data }], guard := none }) (v := ?vm65) rfl (by kernel_rfl) (by kernel_rfl) (by kernel_rfl) (fun _ _ _ h => h) (Or.inl ⟨by rfl, ?ym65⟩) (by assumption) ?rm65
          case ym65 => (intro w hSw; (try dsimp only at hSw); go_simp; (try with_reducible rfl))
          (try simp only [Act.put, List.setIfInBounds_toArray, List.set_cons_zero, List.set_cons_succ])
          refine wpAnyH_take (i := 5) (oi := { dst := some 105, op := Go.Op.load 34 (Go.Operand.tmp 104), type := 34, pos := "law.go:132", after := #[{ on := 4, ground := Go.Ground.data }], guard := none }) (v := ?vm66) rfl (by kernel_rfl) (by kernel_rfl) (by kernel_rfl) (fun _ _ _ h => h) (Or.inl ⟨by rfl, ?ym66⟩) (by assumption) ?rm66
          case ym66 => (intro w hSw; (try dsimp only at hSw); go_simp; (try with_reducible rfl))
          (try simp only [Act.put, List.setIfInBounds_toArray, List.set_cons_zero, List.set_cons_succ])
          refine wpAnyH_ready (rs := [6, 10]) (by kernel_rfl) (by simp) ?_
          refine (AllReadyH.cons (o := { dst := some 106, op := Go.Op.call { callee := Go.Callee.value (Go.Operand.func 17), args := #[Go.Operand.tmp 100, Go.Operand.tmp 101, Go.Operand.tmp 105], argTypes := #[36, 27, 34] }, type := 41, pos := "law.go:132", after := #[{ on := 0, ground := Go.Ground.data }, { on := 1, ground := Go.Ground.data }, { on := 5, ground := Go.Ground.data }], guard := none }) rfl (fun K hK => ?_) (AllReadyH.cons (o := { dst := some 18, op := Go.Op.alloc 34, type := 0, pos := "law.go:132", after := #[], guard := none }) rfl (fun K hK => ?_) AllReadyH.nil))
          · go_simp
            refine (HWT.out _ ZC.out).mono ?_
            rintro e u9 ⟨A9, c9, rfl, hn9, zb⟩
            go_wp2_with fail
            have HN9 := Lib.hid hn9
            clear hn9
            replace ZC := Lib.hid (keep_call zb ZC.out)
            clear zb
            refine hK.out _ _ (HKc.out _ ZC.out) (fun hHeld2 => ?_)
            clear hK K hHeld
            have hHeld := hHeld2
            clear hHeld2
            (try simp only [Act.put, List.setIfInBounds_toArray, List.set_cons_zero, List.set_cons_succ])
            refine wpAnyH_take (i := 7) (oi := { dst := some 99, op := Go.Op.move (Go.Operand.tmp 106), type := 41, pos := "law.go:132", after := #[{ on := 6, ground := Go.Ground.data }], guard := none }) (v := ?vm67) rfl (by kernel_rfl) (by kernel_rfl) (by kernel_rfl) (fun _ _ _ h => h) (Or.inl ⟨by rfl, ?ym67⟩) (by assumption) ?rm67
            case ym67 => (intro w hSw; (try dsimp only at hSw); go_simp; (try with_reducible rfl))
            (try simp only [Act.put, List.setIfInBounds_toArray, List.set_cons_zero, List.set_cons_succ])
            refine wpAnyH_take (i := 8) (oi := { dst := some 107, op := Go.Op.extract (Go.Operand.tmp 99) 0, type := 27, pos := "law.go:132", after := #[{ on := 7, ground := Go.Ground.data }], guard := none }) (v := ?vm68) rfl (by kernel_rfl) (by kernel_rfl) (by kernel_rfl) (fun _ _ _ h => h) (Or.inl ⟨by rfl, ?ym68⟩) (by assumption) ?rm68
            case ym68 => (intro w hSw; (try dsimp only at hSw); go_simp; (try with_reducible rfl))
            (try simp only [Act.put, List.setIfInBounds_toArray, List.set_cons_zero, List.set_cons_succ])
            refine wpAnyH_take (i := 9) (oi := { dst := some 108, op := Go.Op.extract (Go.Operand.tmp 99) 1, type := 34, pos := "law.go:132", after := #[{ on := 7, ground := Go.Ground.data }, { on := 11, ground := Go.Ground.gcOnly Go.Departure.lateStores }], guard := none }) (v := ?vm69) rfl (by kernel_rfl) (by kernel_rfl) (by kernel_rfl) (fun _ _ _ h => h) (Or.inl ⟨by rfl, ?ym69⟩) (by assumption) ?rm69
            case ym69 => (intro w hSw; (try dsimp only at hSw); go_simp; (try with_reducible rfl))
            (try simp only [Act.put, List.setIfInBounds_toArray, List.set_cons_zero, List.set_cons_succ])
            refine wpAnyH_ready (rs := [10]) (by kernel_rfl) (by simp) ?_
            refine (AllReadyH.cons (o := { dst := some 18, op := Go.Op.alloc 34, type := 0, pos := "law.go:132", after := #[], guard := none }) rfl (fun K hK => ?_) AllReadyH.nil)
            go_simp
            have HGS := Lib.hid (show wr.heap.size ≤ u9.heap.size from ZC.out.size)
            have ZO := ZC
            have EO := Lib.hid (show Bf (u9.alloc (.cells #[.int .i64 0, .int .i64 0, .int .i64 0, .int .u64 0, .int .u64 0, .int .u64 0, .int .i64 0] 34)) u9.heap.size f0 from Bf.new u9 f0)
            replace ZC := Lib.hid (ZO.out.alloc ZO.out.size (.cells #[.int .i64 0, .int .i64 0, .int .i64 0, .int .u64 0, .int .u64 0, .int .u64 0, .int .i64 0] 34))
            refine hK.out _ _ (HKc.out _ ZC.out) (fun hHeld2 => ?_)
            clear hK K hHeld
            have hHeld := hHeld2
            clear hHeld2
            (try simp only [Act.put, List.setIfInBounds_toArray, List.set_cons_zero, List.set_cons_succ])
            refine wpAnyH_take (i := 11) (oi := { dst := some 17, op := Go.Op.assign (Go.Operand.tmp 107), type := 27, pos := "law.go:132", after := #[{ on := 8, ground := Go.Ground.data }, { on := 6, ground := Go.Ground.chain }, { on := 0, ground := Go.Ground.phase }, { on := 1, ground := Go.Ground.phase }, { on := 2, ground := Go.Ground.phase }, { on := 3, ground := Go.Ground.phase }, { on := 4, ground := Go.Ground.phase }, { on := 5, ground := Go.Ground.phase }, { on := 6, ground := Go.Ground.phase }, { on := 7, ground := Go.Ground.phase }, { on := 8, ground := Go.Ground.phase }, { on := 9, ground := Go.Ground.textOnly Go.Departure.lateStores }, { on := 10, ground := Go.Ground.phase }], guard := none }) (v := ?vm610) rfl (by kernel_rfl) (by kernel_rfl) (by kernel_rfl) (fun _ _ _ h => h) (Or.inl ⟨by rfl, ?ym610⟩) (by assumption) ?rm610
            case ym610 => (intro w hSw; (try dsimp only at hSw); go_simp; (try with_reducible rfl))
            (try simp only [Act.put, List.setIfInBounds_toArray, List.set_cons_zero, List.set_cons_succ])
            refine wpAnyH_ready (rs := [12]) (by kernel_rfl) (by simp) ?_
            refine (AllReadyH.cons (o := { dst := none, op := Go.Op.store 34 (Go.Operand.tmp 18) (Go.Operand.tmp 108), type := 0, pos := "law.go:132", after := #[{ on := 10, ground := Go.Ground.data }, { on := 9, ground := Go.Ground.data }, { on := 11, ground := Go.Ground.chain }, { on := 0, ground := Go.Ground.phase }, { on := 1, ground := Go.Ground.phase }, { on := 2, ground := Go.Ground.phase }, { on := 3, ground := Go.Ground.phase }, { on := 4, ground := Go.Ground.phase }, { on := 5, ground := Go.Ground.phase }, { on := 6, ground := Go.Ground.phase }, { on := 7, ground := Go.Ground.phase }, { on := 8, ground := Go.Ground.phase }, { on := 9, ground := Go.Ground.phase }, { on := 10, ground := Go.Ground.phase }, { on := 11, ground := Go.Ground.phase }], guard := none }) rfl (fun K hK => ?_) AllReadyH.nil)
            go_simp
            refine hK.out _ _ (HKc.out _ (ZO.out.alloc ZO.out.size _)) (fun hHeld2 => ?_)
            clear hK K hHeld
            have hHeld := hHeld2
            clear hHeld2
            (try simp only [Act.put, List.setIfInBounds_toArray, List.set_cons_zero, List.set_cons_succ])
            refine wpAnyH_done (by kernel_rfl) ?_ _
            go_wp2_with fail
            go_meet
            exact Lib.hid (Cu.last ⟨5, 0, k, 0, 0, 0, 4⟩ HN9.out ZO.out)
          · go_simp
            have HGS := Lib.hid (show wr.heap.size ≤ wr.heap.size from ZC.out.size)
            have ZO := ZC
            have EO := Lib.hid (show Bf (wr.drew.alloc (.cells #[.int .i64 0, .int .i64 0, .int .i64 0, .int .u64 0, .int .u64 0, .int .u64 0, .int .i64 0] 34)) wr.heap.size f0 from Bf.new wr.drew f0)
            replace ZC := Lib.hid (ZO.out.alloc ZO.out.size (.cells #[.int .i64 0, .int .i64 0, .int .i64 0, .int .u64 0, .int .u64 0, .int .u64 0, .int .i64 0] 34))
            refine hK.out _ _ (HKc.out _ ZC.out) (fun hHeld2 => ?_)
            clear hK K hHeld
            have hHeld := hHeld2
            clear hHeld2
            (try simp only [Act.put, List.setIfInBounds_toArray, List.set_cons_zero, List.set_cons_succ])
            refine wpAnyH_ready (rs := [6]) (by kernel_rfl) (by simp) ?_
            refine (AllReadyH.cons (o := { dst := some 106, op := Go.Op.call { callee := Go.Callee.value (Go.Operand.func 17), args := #[Go.Operand.tmp 100, Go.Operand.tmp 101, Go.Operand.tmp 105], argTypes := #[36, 27, 34] }, type := 41, pos := "law.go:132", after := #[{ on := 0, ground := Go.Ground.data }, { on := 1, ground := Go.Ground.data }, { on := 5, ground := Go.Ground.data }], guard := none }) rfl (fun K hK => ?_) AllReadyH.nil)
            go_simp
            refine (HWT.out _ ZC.out).mono ?_
            rintro e u9 ⟨A9, c9, rfl, hn9, zb⟩
            go_wp2_with fail
            have HN9 := Lib.hid hn9
            clear hn9
            have HLT := Lib.hid EO.out.lt
            replace ZC := Lib.hid (keep_call zb ZC.out)
            replace EO := Lib.hid (EO.out.after zb)
            obtain ⟨d0, d1, d2, d3, d4, d5, d6⟩ := EO.out.cells
            have fz := EO.out.free
            have ld := EO.out.lt
            clear zb
            refine hK.out _ _ (HKc.out _ ZC.out) (fun hHeld2 => ?_)
            clear hK K hHeld
            have hHeld := hHeld2
            clear hHeld2
            (try simp only [Act.put, List.setIfInBounds_toArray, List.set_cons_zero, List.set_cons_succ])
            refine wpAnyH_take (i := 7) (oi := { dst := some 99, op := Go.Op.move (Go.Operand.tmp 106), type := 41, pos := "law.go:132", after := #[{ on := 6, ground := Go.Ground.data }], guard := none }) (v := ?vm611) rfl (by kernel_rfl) (by kernel_rfl) (by kernel_rfl) (fun _ _ _ h => h) (Or.inl ⟨by rfl, ?ym611⟩) (by assumption) ?rm611
            case ym611 => (intro w hSw; (try dsimp only at hSw); go_simp; (try with_reducible rfl))
            (try simp only [Act.put, List.setIfInBounds_toArray, List.set_cons_zero, List.set_cons_succ])
            refine wpAnyH_take (i := 8) (oi := { dst := some 107, op := Go.Op.extract (Go.Operand.tmp 99) 0, type := 27, pos := "law.go:132", after := #[{ on := 7, ground := Go.Ground.data }], guard := none }) (v := ?vm612) rfl (by kernel_rfl) (by kernel_rfl) (by kernel_rfl) (fun _ _ _ h => h) (Or.inl ⟨by rfl, ?ym612⟩) (by assumption) ?rm612
            case ym612 => (intro w hSw; (try dsimp only at hSw); go_simp; (try with_reducible rfl))
            (try simp only [Act.put, List.setIfInBounds_toArray, List.set_cons_zero, List.set_cons_succ])
            refine wpAnyH_take (i := 9) (oi := { dst := some 108, op := Go.Op.extract (Go.Operand.tmp 99) 1, type := 34, pos := "law.go:132", after := #[{ on := 7, ground := Go.Ground.data }, { on := 11, ground := Go.Ground.gcOnly Go.Departure.lateStores }], guard := none }) (v := ?vm613) rfl (by kernel_rfl) (by kernel_rfl) (by kernel_rfl) (fun _ _ _ h => h) (Or.inl ⟨by rfl, ?ym613⟩) (by assumption) ?rm613
            case ym613 => (intro w hSw; (try dsimp only at hSw); go_simp; (try with_reducible rfl))
            (try simp only [Act.put, List.setIfInBounds_toArray, List.set_cons_zero, List.set_cons_succ])
            refine wpAnyH_take (i := 11) (oi := { dst := some 17, op := Go.Op.assign (Go.Operand.tmp 107), type := 27, pos := "law.go:132", after := #[{ on := 8, ground := Go.Ground.data }, { on := 6, ground := Go.Ground.chain }, { on := 0, ground := Go.Ground.phase }, { on := 1, ground := Go.Ground.phase }, { on := 2, ground := Go.Ground.phase }, { on := 3, ground := Go.Ground.phase }, { on := 4, ground := Go.Ground.phase }, { on := 5, ground := Go.Ground.phase }, { on := 6, ground := Go.Ground.phase }, { on := 7, ground := Go.Ground.phase }, { on := 8, ground := Go.Ground.phase }, { on := 9, ground := Go.Ground.textOnly Go.Departure.lateStores }, { on := 10, ground := Go.Ground.phase }], guard := none }) (v := ?vm614) rfl (by kernel_rfl) (by kernel_rfl) (by kernel_rfl) (fun _ _ _ h => h) (Or.inl ⟨by rfl, ?ym614⟩) (by assumption) ?rm614
            case ym614 => (intro w hSw; (try dsimp only at hSw); go_simp; (try with_reducible rfl))
            (try simp only [Act.put, List.setIfInBounds_toArray, List.set_cons_zero, List.set_cons_succ])
            refine wpAnyH_ready (rs := [12]) (by kernel_rfl) (by simp) ?_
            refine (AllReadyH.cons (o := { dst := none, op := Go.Op.store 34 (Go.Operand.tmp 18) (Go.Operand.tmp 108), type := 0, pos := "law.go:132", after := #[{ on := 10, ground := Go.Ground.data }, { on := 9, ground := Go.Ground.data }, { on := 11, ground := Go.Ground.chain }, { on := 0, ground := Go.Ground.phase }, { on := 1, ground := Go.Ground.phase }, { on := 2, ground := Go.Ground.phase }, { on := 3, ground := Go.Ground.phase }, { on := 4, ground := Go.Ground.phase }, { on := 5, ground := Go.Ground.phase }, { on := 6, ground := Go.Ground.phase }, { on := 7, ground := Go.Ground.phase }, { on := 8, ground := Go.Ground.phase }, { on := 9, ground := Go.Ground.phase }, { on := 10, ground := Go.Ground.phase }, { on := 11, ground := Go.Ground.phase }], guard := none }) rfl (fun K hK => ?_) AllReadyH.nil)
            go_simp
            refine hK.out _ _ (hd_set7g HKc.out HGS.out _ _ _ _ _ _ _ ZC.out) (fun hHeld2 => ?_)
            clear hK K hHeld
            have hHeld := hHeld2
            clear hHeld2
            (try simp only [Act.put, List.setIfInBounds_toArray, List.set_cons_zero, List.set_cons_succ])
            refine wpAnyH_done (by kernel_rfl) ?_ _
            go_wp2_with fail
            go_meet
            exact Lib.hid (Cu.box ⟨5, 0, k, 0, 0, 0, 4⟩ EO.out HGS.out HN9.out HLT.out ZC.out)
        case rest =>
          obtain ⟨g9, A9, c9, rfl, rfl, hE, hB9, hR9, hz9⟩ := hcut.out
          have F9 := hF.out.below hz9 hF.out.lt
          obtain ⟨c0, c1', c2, c3, c4, c5, c6⟩ := F9.cells
          have lb := F9.lt
          have HB9 := Lib.hid hB9
          have Y9 := Lib.hid (hY.out.trans (hz9.mono HSZ.out))
          clear hcut hE hR9 hB9 hz9 b0 b1 b2 b3
          go_wp2_with fail
          have hb : (f1.res != 0) = true := by simpa using HRES.out
          refine (Tells.of (over_any f1 _) (v' := .bool true) (by rw [hb])).mono ?_
          rintro _ wy ⟨rfl, zy⟩
          obtain ⟨r0, r1, r2, r3, r4, r5, r6⟩ := (HB9.out.after zy).cells
          have lr := (HB9.out.after zy).lt
          have HZ := Lib.hid (Z4.out.trans ((Y9.out.trans (zy.mono Y9.out.size)).mono Z4.out.size))
          clear zy hb c0 c1' c2 c3 c4 c5 c6 lb
          go_wp2
          go_ret
          exact ⟨rfl, HZ.out⟩
  · go_wp2_with fail
    refine (begin_any 6 k 0 _).mono ?_
    rintro _ w5 ⟨rfl, z5⟩
    have y5 := bel_alloc w5 (.cells #[.int .i64 6, .int .i64 0, .int .i64 k, .int .u64 0, .int .u64 0, .int .u64 0, .int .i64 0] 34)
    have F5 : Bf (w5.alloc (.cells #[.int .i64 6, .int .i64 0, .int .i64 k, .int .u64 0, .int .u64 0, .int .u64 0, .int .i64 0] 34)) w5.heap.size (fbg 6 k 0) := heap_alloc_new _ _
    have h45 := z5.size
    have y6 := z5.trans (y5.mono h45)
    go_upto_region 10 with fail
    change Code.wp _ _ _ _ (w5.alloc (.cells #[.int .i64 6, .int .i64 0, .int .i64 k, .int .u64 0, .int .u64 0, .int .u64 0, .int .i64 0] 34))
    generalize w5.alloc (.cells #[.int .i64 6, .int .i64 0, .int .i64 k, .int .u64 0, .int .u64 0, .int .u64 0, .int .i64 0] 34) = w6 at F5 y6 ⊢
    generalize w5.heap.size = h at F5 h45 ⊢
    have hlt := F5.lt
    clear z5 y5 a0 a1 a2 a3 a4 a5 a6
    go_wp2_with fail
    refine (begin_any 7 k 0 _).mono ?_
    rintro _ w7 ⟨rfl, z7⟩
    have F7 := F5.below z7 hlt
    have Y7 := Lib.hid (y6.trans (z7.mono (Nat.le_of_lt (Nat.lt_of_le_of_lt h45 hlt))))
    obtain ⟨r0, r1, r2, r3, r4, r5, r6⟩ := F7.cells
    have fr := F7.free
    have lr := F7.lt
    go_upto_region 12 with fail
    change Code.wp _ _ _ _ (pf w7 h (fbg 7 k 0))
    have F8 := Lib.hid (F7.pf (fbg 7 k 0))
    have Y8 := Lib.hid (below_pf Y7.out h45 (fbg 7 k 0))
    clear r0 r1 r2 r3 r4 r5 r6 fr lr z7 F5 F7 Y7 y6 hlt
    generalize pf w7 h (fbg 7 k 0) = w8 at F8 Y8 ⊢
    go_wp2
    go_loopw [12, 16] (fun u x wr => ∃ (j : Nat) (A : Option Addr) (c : Nat), u = .slice A nm c ∧ x = .int .i64 j ∧ j ≤ 20 ∧ Hid (Rd wr A (itN (noteS nc 1 1 0) j (m, fbg 7 k 0)).1) ∧ Hid (Bf wr h (itN (noteS nc 1 1 0) j (m, fbg 7 k 0)).2) ∧ Hid (Below w4.heap.size w4 wr)) (fun _ x _ => 20 - (intOf x).toNat)
    case atStart => exact ⟨0, Am, cm, rfl, rfl, by omega, Lib.hid (RM.out.below Y8.out), F8, Y8⟩
    case round =>
      clear F8 Y8
      obtain ⟨j, A1, c1, rfl, rfl, hj, hR, hF, hY⟩ := hrel
      have hNL := noteN_len nc 1 1 0 j (m, fbg 7 k 0)
      have hNU := noteN_U (W := nc) (D := 1) (J := 1) (S := 0) (s := (m, fbg 7 k 0)) HSI.out.um (by unfold UF U fbg; simp) j
      obtain ⟨⟨l1, f1⟩, hs1⟩ : ∃ s, itN (noteS nc 1 1 0) j (m, fbg 7 k 0) = s := ⟨_, rfl⟩
      rw [hs1] at hNL hNU hR hF
      simp only at hNL hNU hR hF
      rw [HNM.out] at hNL
      obtain ⟨_, b0, b1, b2, b3⟩ := HBX.out.below hY.out
      by_cases hlt : j < 20
      · have d5 : decide ((j : Int) < 20) = true := decide_eq_true (by omega)
        obtain ⟨c0, c1', c2, c3, c4, c5, c6⟩ := hF.out.cells
        have lb := hF.out.lt
        obtain ⟨l2, f2, hs2⟩ : ∃ l2 f2, noteS nc 1 1 0 l1 f1 = (l2, f2) := ⟨_, _, rfl⟩
        have hs3 : itN (noteS nc 1 1 0) (j + 1) (m, fbg 7 k 0) = (l2, f2) := by rw [itN_succ, hs1]; exact hs2
        have HS3 := Lib.hid hs3
        have hnl := HML.out
        rw [HNM.out] at hnl
        have HGO := Lib.hid (note_n (c := c1) hR.out hNL hnl hNU.2 hs2)
        clear hs1 hs2 hs3 hNL hNU
        go_wp2_with fail
        refine HGO.out.mono ?_
        rintro _ x2 ⟨A2, c2', rfl, hr2, z2⟩
        have b5 := hF.out.below z2 lb
        have YY := Lib.hid (hY.out.trans (z2.mono hY.out.size))
        obtain ⟨r0, r1, r2, r3, r4, r5, r6⟩ := b5.cells
        have fr := b5.free
        have lr := b5.lt
        have B5 := Lib.hid b5
        have R2 := Lib.hid hr2
        have hlw : h < wr.heap.size := lb
        clear z2 b5 hr2 HGO hR hF hY c0 c1' c2 c3 c4 c5 c6 b0 b1 b2 b3 lb
        go_wp2
        go_roundw
        case rel => exact ⟨j + 1, A2, c2', rfl, by go_num, by omega, Lib.hid (by rw [HS3.out]; exact ((R2.out.pf hlw f2).mono (Nat.zero_le _)).rd), Lib.hid (by rw [HS3.out]; exact B5.out.pf f2), Lib.hid (below_pf YY.out h45 f2)⟩
        case measure => simp [intOf]; omega
      · obtain rfl : j = 20 := by omega
        have d5 : decide (((20 : Nat) : Int) < 20) = false := by decide
        obtain ⟨l', f', e20, hres, hwt⟩ := missed_E HSI.out (by rw [HNW.out]; omega) hk HF.out (show (7 : Int) = 6 ∨ (7 : Int) = 7 by decide) k
        rw [hs1] at e20
        cases e20
        have HRES := Lib.hid hres
        have hnl := HML.out
        rw [HNM.out] at hnl
        have HWT := Lib.hid (fun (x : World) (hx : Below wr.heap.size wr x) => wait_n (c := c1) (hR.out.below hx) hNL hnl HUF.out hwt)
        have HSZ := Lib.hid (show w4.heap.size ≤ wr.heap.size from hY.out.size)
        clear hs1 hNL hNU hres hwt hlt hj
        go_upto_region 16 with fail
        go_cut [17, 18] from 99 to 108 (fun x t wz => Hid (Cu wr nm l1 ⟨5, 0, k, 0, 0, 0, 4⟩ x t wz))
        case first =>
          have HKc := Lib.hid (show ∀ x', Below wr.heap.size wr x' → (fun w' => w'.cell? ⟨g0, 0, none⟩ = some (.int .i64 nc) ∧ w'.cell? ⟨g0, 1, none⟩ = some (.int .i64 1) ∧ w'.cell? ⟨g0, 2, none⟩ = some (.int .i64 1) ∧ w'.cell? ⟨g0, 3, none⟩ = some (.int .i64 0) ∧ w'.cell? ⟨b, off + k * 7, none⟩ = some (.int .i64 5) ∧ w'.cell? ⟨b, off + k * 7 + 1, none⟩ = some (.int .i64 1) ∧ w'.cell? ⟨b, off + k * 7 + 2, none⟩ = some (.int .i64 k) ∧ w'.cell? ⟨b, off + k * 7 + 3, none⟩ = some (.int .u64 v) ∧ w'.cell? ⟨b, off + k * 7 + 4, none⟩ = some (.int .u64 xx) ∧ w'.cell? ⟨b, off + k * 7 + 5, none⟩ = some (.int .u64 y) ∧ w'.cell? ⟨b, off + k * 7 + 6, none⟩ = some (.int .i64 0) ∧ Below wr.heap.size wr w') x' from fun x' hx => by
            obtain ⟨_, e0, e1, e2, e3⟩ := (HBX.out.below hY.out).below hx
            obtain ⟨k0, k1, k2, k3, k4, k5, k6⟩ := HCC.out x' (hY.out.trans (hx.mono HSZ.out))
            exact ⟨e0, e1, e2, e3, k0, k1, k2, k3, k4, k5, k6, hx⟩)
          have hHeld0 := HKc.out _ (Below.refl _ _)
          have ZC := Lib.hid (Below.refl wr.heap.size wr).drew
          clear b0 b1 b2 b3
          refine wp_region_held_drew (S := fun w' => w'.cell? ⟨g0, 0, none⟩ = some (.int .i64 nc) ∧ w'.cell? ⟨g0, 1, none⟩ = some (.int .i64 1) ∧ w'.cell? ⟨g0, 2, none⟩ = some (.int .i64 1) ∧ w'.cell? ⟨g0, 3, none⟩ = some (.int .i64 0) ∧ w'.cell? ⟨b, off + k * 7, none⟩ = some (.int .i64 5) ∧ w'.cell? ⟨b, off + k * 7 + 1, none⟩ = some (.int .i64 1) ∧ w'.cell? ⟨b, off + k * 7 + 2, none⟩ = some (.int .i64 k) ∧ w'.cell? ⟨b, off + k * 7 + 3, none⟩ = some (.int .u64 v) ∧ w'.cell? ⟨b, off + k * 7 + 4, none⟩ = some (.int .u64 xx) ∧ w'.cell? ⟨b, off + k * 7 + 5, none⟩ = some (.int .u64 y) ∧ w'.cell? ⟨b, off + k * 7 + 6, none⟩ = some (.int .i64 0) ∧ Below wr.heap.size wr w') (by kernel_rfl) (hd_drew HKc.out (fun _ h => h.2.2.2.2.2.2.2.2.2.2.2) hHeld0) (fun hHeld => ?_)
          refine wpAnyH_take (i := 0) (oi := { dst := some 100, op := Go.Op.load 36 (Go.Operand.tmp 11), type := 36, pos := "law.go:132", after := #[], guard := none }) (v := ?vm71) rfl (by kernel_rfl) (by kernel_rfl) (by kernel_rfl) (fun _ _ _ h => h) (Or.inl ⟨by rfl, ?ym71⟩) (by assumption) ?rm71
          case ym71 => (intro w hSw; (try dsimp only at hSw); go_simp; (try with_reducible rfl))
          (try simp only [Act.put, List.setIfInBounds_toArray, List.set_cons_zero, List.set_cons_succ])
          refine wpAnyH_take (i := 1) (oi := { dst := some 101, op := Go.Op.move (Go.Operand.tmp 12), type := 27, pos := "law.go:132", after := #[], guard := none }) (v := ?vm72) rfl (by kernel_rfl) (by kernel_rfl) (by kernel_rfl) (fun _ _ _ h => h) (Or.inl ⟨by rfl, ?ym72⟩) (by assumption) ?rm72
          case ym72 => (intro w hSw; (try dsimp only at hSw); go_simp; (try with_reducible rfl))
          (try simp only [Act.put, List.setIfInBounds_toArray, List.set_cons_zero, List.set_cons_succ])
          refine wpAnyH_take (i := 2) (oi := { dst := some 102, op := Go.Op.move (Go.Operand.tmp 14), type := 28, pos := "law.go:132", after := #[], guard := none }) (v := ?vm73) rfl (by kernel_rfl) (by kernel_rfl) (by kernel_rfl) (fun _ _ _ h => h) (Or.inl ⟨by rfl, ?ym73⟩) (by assumption) ?rm73
          case ym73 => (intro w hSw; (try dsimp only at hSw); go_simp; (try with_reducible rfl))
          (try simp only [Act.put, List.setIfInBounds_toArray, List.set_cons_zero, List.set_cons_succ])
          refine wpAnyH_take (i := 3) (oi := { dst := some 103, op := Go.Op.move (Go.Operand.tmp 2), type := 3, pos := "law.go:132", after := #[], guard := none }) (v := ?vm74) rfl (by kernel_rfl) (by kernel_rfl) (by kernel_rfl) (fun _ _ _ h => h) (Or.inl ⟨by rfl, ?ym74⟩) (by assumption) ?rm74
          case ym74 => (intro w hSw; (try dsimp only at hSw); go_simp; (try with_reducible rfl))
          (try simp only [Act.put, List.setIfInBounds_toArray, List.set_cons_zero, List.set_cons_succ])
          refine wpAnyH_take (i := 4) (oi := { dst := some 104, op := Go.Op.indexAddr 28 (Go.Operand.tmp 102) (Go.Operand.tmp 103), type := 0, pos := "law.go:132", after := #[{ on := 2, ground := Go.Ground.data }, { on := 3, ground := Go.Ground.data }], guard := none }) (v := ?vm75) rfl (by kernel_rfl) (by kernel_rfl) (by kernel_rfl) (fun _ _ _ h => h) (Or.inl ⟨by rfl, ?ym75⟩) (by assumption) ?rm75
          case ym75 => (intro w hSw; (try dsimp only at hSw); go_simp; (try with_reducible rfl))
          (try simp only [Act.put, List.setIfInBounds_toArray, List.set_cons_zero, List.set_cons_succ])
          refine wpAnyH_take (i := 5) (oi := { dst := some 105, op := Go.Op.load 34 (Go.Operand.tmp 104), type := 34, pos := "law.go:132", after := #[{ on := 4, ground := Go.Ground.data }], guard := none }) (v := ?vm76) rfl (by kernel_rfl) (by kernel_rfl) (by kernel_rfl) (fun _ _ _ h => h) (Or.inl ⟨by rfl, ?ym76⟩) (by assumption) ?rm76
          case ym76 => (intro w hSw; (try dsimp only at hSw); go_simp; (try with_reducible rfl))
          (try simp only [Act.put, List.setIfInBounds_toArray, List.set_cons_zero, List.set_cons_succ])
          refine wpAnyH_ready (rs := [6, 10]) (by kernel_rfl) (by simp) ?_
          refine (AllReadyH.cons (o := { dst := some 106, op := Go.Op.call { callee := Go.Callee.value (Go.Operand.func 17), args := #[Go.Operand.tmp 100, Go.Operand.tmp 101, Go.Operand.tmp 105], argTypes := #[36, 27, 34] }, type := 41, pos := "law.go:132", after := #[{ on := 0, ground := Go.Ground.data }, { on := 1, ground := Go.Ground.data }, { on := 5, ground := Go.Ground.data }], guard := none }) rfl (fun K hK => ?_) (AllReadyH.cons (o := { dst := some 18, op := Go.Op.alloc 34, type := 0, pos := "law.go:132", after := #[], guard := none }) rfl (fun K hK => ?_) AllReadyH.nil))
          · go_simp
            refine (HWT.out _ ZC.out).mono ?_
            rintro e u9 ⟨A9, c9, rfl, hn9, zb⟩
            go_wp2_with fail
            have HN9 := Lib.hid hn9
            clear hn9
            replace ZC := Lib.hid (keep_call zb ZC.out)
            clear zb
            refine hK.out _ _ (HKc.out _ ZC.out) (fun hHeld2 => ?_)
            clear hK K hHeld
            have hHeld := hHeld2
            clear hHeld2
            (try simp only [Act.put, List.setIfInBounds_toArray, List.set_cons_zero, List.set_cons_succ])
            refine wpAnyH_take (i := 7) (oi := { dst := some 99, op := Go.Op.move (Go.Operand.tmp 106), type := 41, pos := "law.go:132", after := #[{ on := 6, ground := Go.Ground.data }], guard := none }) (v := ?vm77) rfl (by kernel_rfl) (by kernel_rfl) (by kernel_rfl) (fun _ _ _ h => h) (Or.inl ⟨by rfl, ?ym77⟩) (by assumption) ?rm77
            case ym77 => (intro w hSw; (try dsimp only at hSw); go_simp; (try with_reducible rfl))
            (try simp only [Act.put, List.setIfInBounds_toArray, List.set_cons_zero, List.set_cons_succ])
            refine wpAnyH_take (i := 8) (oi := { dst := some 107, op := Go.Op.extract (Go.Operand.tmp 99) 0, type := 27, pos := "law.go:132", after := #[{ on := 7, ground := Go.Ground.data }], guard := none }) (v := ?vm78) rfl (by kernel_rfl) (by kernel_rfl) (by kernel_rfl) (fun _ _ _ h => h) (Or.inl ⟨by rfl, ?ym78⟩) (by assumption) ?rm78
            case ym78 => (intro w hSw; (try dsimp only at hSw); go_simp; (try with_reducible rfl))
            (try simp only [Act.put, List.setIfInBounds_toArray, List.set_cons_zero, List.set_cons_succ])
            refine wpAnyH_take (i := 9) (oi := { dst := some 108, op := Go.Op.extract (Go.Operand.tmp 99) 1, type := 34, pos := "law.go:132", after := #[{ on := 7, ground := Go.Ground.data }, { on := 11, ground := Go.Ground.gcOnly Go.Departure.lateStores }], guard := none }) (v := ?vm79) rfl (by kernel_rfl) (by kernel_rfl) (by kernel_rfl) (fun _ _ _ h => h) (Or.inl ⟨by rfl, ?ym79⟩) (by assumption) ?rm79
            case ym79 => (intro w hSw; (try dsimp only at hSw); go_simp; (try with_reducible rfl))
            (try simp only [Act.put, List.setIfInBounds_toArray, List.set_cons_zero, List.set_cons_succ])
            refine wpAnyH_ready (rs := [10]) (by kernel_rfl) (by simp) ?_
            refine (AllReadyH.cons (o := { dst := some 18, op := Go.Op.alloc 34, type := 0, pos := "law.go:132", after := #[], guard := none }) rfl (fun K hK => ?_) AllReadyH.nil)
            go_simp
            have HGS := Lib.hid (show wr.heap.size ≤ u9.heap.size from ZC.out.size)
            have ZO := ZC
            have EO := Lib.hid (show Bf (u9.alloc (.cells #[.int .i64 0, .int .i64 0, .int .i64 0, .int .u64 0, .int .u64 0, .int .u64 0, .int .i64 0] 34)) u9.heap.size f0 from Bf.new u9 f0)
            replace ZC := Lib.hid (ZO.out.alloc ZO.out.size (.cells #[.int .i64 0, .int .i64 0, .int .i64 0, .int .u64 0, .int .u64 0, .int .u64 0, .int .i64 0] 34))
            refine hK.out _ _ (HKc.out _ ZC.out) (fun hHeld2 => ?_)
            clear hK K hHeld
            have hHeld := hHeld2
            clear hHeld2
            (try simp only [Act.put, List.setIfInBounds_toArray, List.set_cons_zero, List.set_cons_succ])
            refine wpAnyH_take (i := 11) (oi := { dst := some 17, op := Go.Op.assign (Go.Operand.tmp 107), type := 27, pos := "law.go:132", after := #[{ on := 8, ground := Go.Ground.data }, { on := 6, ground := Go.Ground.chain }, { on := 0, ground := Go.Ground.phase }, { on := 1, ground := Go.Ground.phase }, { on := 2, ground := Go.Ground.phase }, { on := 3, ground := Go.Ground.phase }, { on := 4, ground := Go.Ground.phase }, { on := 5, ground := Go.Ground.phase }, { on := 6, ground := Go.Ground.phase }, { on := 7, ground := Go.Ground.phase }, { on := 8, ground := Go.Ground.phase }, { on := 9, ground := Go.Ground.textOnly Go.Departure.lateStores }, { on := 10, ground := Go.Ground.phase }], guard := none }) (v := ?vm710) rfl (by kernel_rfl) (by kernel_rfl) (by kernel_rfl) (fun _ _ _ h => h) (Or.inl ⟨by rfl, ?ym710⟩) (by assumption) ?rm710
            case ym710 => (intro w hSw; (try dsimp only at hSw); go_simp; (try with_reducible rfl))
            (try simp only [Act.put, List.setIfInBounds_toArray, List.set_cons_zero, List.set_cons_succ])
            refine wpAnyH_ready (rs := [12]) (by kernel_rfl) (by simp) ?_
            refine (AllReadyH.cons (o := { dst := none, op := Go.Op.store 34 (Go.Operand.tmp 18) (Go.Operand.tmp 108), type := 0, pos := "law.go:132", after := #[{ on := 10, ground := Go.Ground.data }, { on := 9, ground := Go.Ground.data }, { on := 11, ground := Go.Ground.chain }, { on := 0, ground := Go.Ground.phase }, { on := 1, ground := Go.Ground.phase }, { on := 2, ground := Go.Ground.phase }, { on := 3, ground := Go.Ground.phase }, { on := 4, ground := Go.Ground.phase }, { on := 5, ground := Go.Ground.phase }, { on := 6, ground := Go.Ground.phase }, { on := 7, ground := Go.Ground.phase }, { on := 8, ground := Go.Ground.phase }, { on := 9, ground := Go.Ground.phase }, { on := 10, ground := Go.Ground.phase }, { on := 11, ground := Go.Ground.phase }], guard := none }) rfl (fun K hK => ?_) AllReadyH.nil)
            go_simp
            refine hK.out _ _ (HKc.out _ (ZO.out.alloc ZO.out.size _)) (fun hHeld2 => ?_)
            clear hK K hHeld
            have hHeld := hHeld2
            clear hHeld2
            (try simp only [Act.put, List.setIfInBounds_toArray, List.set_cons_zero, List.set_cons_succ])
            refine wpAnyH_done (by kernel_rfl) ?_ _
            go_wp2_with fail
            go_meet
            exact Lib.hid (Cu.last ⟨5, 0, k, 0, 0, 0, 4⟩ HN9.out ZO.out)
          · go_simp
            have HGS := Lib.hid (show wr.heap.size ≤ wr.heap.size from ZC.out.size)
            have ZO := ZC
            have EO := Lib.hid (show Bf (wr.drew.alloc (.cells #[.int .i64 0, .int .i64 0, .int .i64 0, .int .u64 0, .int .u64 0, .int .u64 0, .int .i64 0] 34)) wr.heap.size f0 from Bf.new wr.drew f0)
            replace ZC := Lib.hid (ZO.out.alloc ZO.out.size (.cells #[.int .i64 0, .int .i64 0, .int .i64 0, .int .u64 0, .int .u64 0, .int .u64 0, .int .i64 0] 34))
            refine hK.out _ _ (HKc.out _ ZC.out) (fun hHeld2 => ?_)
            clear hK K hHeld
            have hHeld := hHeld2
            clear hHeld2
            (try simp only [Act.put, List.setIfInBounds_toArray, List.set_cons_zero, List.set_cons_succ])
            refine wpAnyH_ready (rs := [6]) (by kernel_rfl) (by simp) ?_
            refine (AllReadyH.cons (o := { dst := some 106, op := Go.Op.call { callee := Go.Callee.value (Go.Operand.func 17), args := #[Go.Operand.tmp 100, Go.Operand.tmp 101, Go.Operand.tmp 105], argTypes := #[36, 27, 34] }, type := 41, pos := "law.go:132", after := #[{ on := 0, ground := Go.Ground.data }, { on := 1, ground := Go.Ground.data }, { on := 5, ground := Go.Ground.data }], guard := none }) rfl (fun K hK => ?_) AllReadyH.nil)
            go_simp
            refine (HWT.out _ ZC.out).mono ?_
            rintro e u9 ⟨A9, c9, rfl, hn9, zb⟩
            go_wp2_with fail
            have HN9 := Lib.hid hn9
            clear hn9
            have HLT := Lib.hid EO.out.lt
            replace ZC := Lib.hid (keep_call zb ZC.out)
            replace EO := Lib.hid (EO.out.after zb)
            obtain ⟨d0, d1, d2, d3, d4, d5, d6⟩ := EO.out.cells
            have fz := EO.out.free
            have ld := EO.out.lt
            clear zb
            refine hK.out _ _ (HKc.out _ ZC.out) (fun hHeld2 => ?_)
            clear hK K hHeld
            have hHeld := hHeld2
            clear hHeld2
            (try simp only [Act.put, List.setIfInBounds_toArray, List.set_cons_zero, List.set_cons_succ])
            refine wpAnyH_take (i := 7) (oi := { dst := some 99, op := Go.Op.move (Go.Operand.tmp 106), type := 41, pos := "law.go:132", after := #[{ on := 6, ground := Go.Ground.data }], guard := none }) (v := ?vm711) rfl (by kernel_rfl) (by kernel_rfl) (by kernel_rfl) (fun _ _ _ h => h) (Or.inl ⟨by rfl, ?ym711⟩) (by assumption) ?rm711
            case ym711 => (intro w hSw; (try dsimp only at hSw); go_simp; (try with_reducible rfl))
            (try simp only [Act.put, List.setIfInBounds_toArray, List.set_cons_zero, List.set_cons_succ])
            refine wpAnyH_take (i := 8) (oi := { dst := some 107, op := Go.Op.extract (Go.Operand.tmp 99) 0, type := 27, pos := "law.go:132", after := #[{ on := 7, ground := Go.Ground.data }], guard := none }) (v := ?vm712) rfl (by kernel_rfl) (by kernel_rfl) (by kernel_rfl) (fun _ _ _ h => h) (Or.inl ⟨by rfl, ?ym712⟩) (by assumption) ?rm712
            case ym712 => (intro w hSw; (try dsimp only at hSw); go_simp; (try with_reducible rfl))
            (try simp only [Act.put, List.setIfInBounds_toArray, List.set_cons_zero, List.set_cons_succ])
            refine wpAnyH_take (i := 9) (oi := { dst := some 108, op := Go.Op.extract (Go.Operand.tmp 99) 1, type := 34, pos := "law.go:132", after := #[{ on := 7, ground := Go.Ground.data }, { on := 11, ground := Go.Ground.gcOnly Go.Departure.lateStores }], guard := none }) (v := ?vm713) rfl (by kernel_rfl) (by kernel_rfl) (by kernel_rfl) (fun _ _ _ h => h) (Or.inl ⟨by rfl, ?ym713⟩) (by assumption) ?rm713
            case ym713 => (intro w hSw; (try dsimp only at hSw); go_simp; (try with_reducible rfl))
            (try simp only [Act.put, List.setIfInBounds_toArray, List.set_cons_zero, List.set_cons_succ])
            refine wpAnyH_take (i := 11) (oi := { dst := some 17, op := Go.Op.assign (Go.Operand.tmp 107), type := 27, pos := "law.go:132", after := #[{ on := 8, ground := Go.Ground.data }, { on := 6, ground := Go.Ground.chain }, { on := 0, ground := Go.Ground.phase }, { on := 1, ground := Go.Ground.phase }, { on := 2, ground := Go.Ground.phase }, { on := 3, ground := Go.Ground.phase }, { on := 4, ground := Go.Ground.phase }, { on := 5, ground := Go.Ground.phase }, { on := 6, ground := Go.Ground.phase }, { on := 7, ground := Go.Ground.phase }, { on := 8, ground := Go.Ground.phase }, { on := 9, ground := Go.Ground.textOnly Go.Departure.lateStores }, { on := 10, ground := Go.Ground.phase }], guard := none }) (v := ?vm714) rfl (by kernel_rfl) (by kernel_rfl) (by kernel_rfl) (fun _ _ _ h => h) (Or.inl ⟨by rfl, ?ym714⟩) (by assumption) ?rm714
            case ym714 => (intro w hSw; (try dsimp only at hSw); go_simp; (try with_reducible rfl))
            (try simp only [Act.put, List.setIfInBounds_toArray, List.set_cons_zero, List.set_cons_succ])
            refine wpAnyH_ready (rs := [12]) (by kernel_rfl) (by simp) ?_
            refine (AllReadyH.cons (o := { dst := none, op := Go.Op.store 34 (Go.Operand.tmp 18) (Go.Operand.tmp 108), type := 0, pos := "law.go:132", after := #[{ on := 10, ground := Go.Ground.data }, { on := 9, ground := Go.Ground.data }, { on := 11, ground := Go.Ground.chain }, { on := 0, ground := Go.Ground.phase }, { on := 1, ground := Go.Ground.phase }, { on := 2, ground := Go.Ground.phase }, { on := 3, ground := Go.Ground.phase }, { on := 4, ground := Go.Ground.phase }, { on := 5, ground := Go.Ground.phase }, { on := 6, ground := Go.Ground.phase }, { on := 7, ground := Go.Ground.phase }, { on := 8, ground := Go.Ground.phase }, { on := 9, ground := Go.Ground.phase }, { on := 10, ground := Go.Ground.phase }, { on := 11, ground := Go.Ground.phase }], guard := none }) rfl (fun K hK => ?_) AllReadyH.nil)
            go_simp
            refine hK.out _ _ (hd_set7g HKc.out HGS.out _ _ _ _ _ _ _ ZC.out) (fun hHeld2 => ?_)
            clear hK K hHeld
            have hHeld := hHeld2
            clear hHeld2
            (try simp only [Act.put, List.setIfInBounds_toArray, List.set_cons_zero, List.set_cons_succ])
            refine wpAnyH_done (by kernel_rfl) ?_ _
            go_wp2_with fail
            go_meet
            exact Lib.hid (Cu.box ⟨5, 0, k, 0, 0, 0, 4⟩ EO.out HGS.out HN9.out HLT.out ZC.out)
        case rest =>
          obtain ⟨g9, A9, c9, rfl, rfl, hE, hB9, hR9, hz9⟩ := hcut.out
          have F9 := hF.out.below hz9 hF.out.lt
          obtain ⟨c0, c1', c2, c3, c4, c5, c6⟩ := F9.cells
          have lb := F9.lt
          have HB9 := Lib.hid hB9
          have Y9 := Lib.hid (hY.out.trans (hz9.mono HSZ.out))
          clear hcut hE hR9 hB9 hz9 b0 b1 b2 b3
          go_wp2_with fail
          have hb : (f1.res != 0) = true := by simpa using HRES.out
          refine (Tells.of (over_any f1 _) (v' := .bool true) (by rw [hb])).mono ?_
          rintro _ wy ⟨rfl, zy⟩
          obtain ⟨r0, r1, r2, r3, r4, r5, r6⟩ := (HB9.out.after zy).cells
          have lr := (HB9.out.after zy).lt
          have HZ := Lib.hid (Z4.out.trans ((Y9.out.trans (zy.mono Y9.out.size)).mono Z4.out.size))
          clear zy hb c0 c1' c2 c3 c4 c5 c6 lb
          go_wp2
          go_ret
          exact ⟨rfl, HZ.out⟩
end Go.Proofs.Ytgemaeibmgkneaa
