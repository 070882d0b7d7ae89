/- The walk of InjectWho. -/
import Derived.Test.YtppllanmgdhabaaIkV
namespace Go.Proofs.Ytppllanmgdhabaa
open Go.RowKit Go.Deep Go.Shelf
theorem plI_who {J : Int} {outs : List (List Bool)} (who : List Int) (h8 : outs.length ≤ 8) (h30 : ∀ l ∈ outs, l.length ≤ 30) {i : Nat} {l : List Bool} (hl : outs[i]? = some l) :
    ((plI J (csI outs) who).1.length = 0 ∧ (plI J (csI outs) who).2.1.length = 0) ∨
    ((plI J (csI outs) who).2.1.length = outs.length ∧
      (∀ (j : Nat) (hj : j < (plI J (csI outs) who).2.2.length), (plI J (csI outs) who).2.2[j].who = i → l[((plI J (csI outs) who).2.2.take j).countP (isW i)]? = some (decide ((plI J (csI outs) who).2.2[j].op = 4)) ∧ (plI J (csI outs) who).2.2[j].res ≠ 0) ∧
      (plI J (csI outs) who).2.2.countP (isW i) ≤ l.length ∧
      (((plI J (csI outs) who).2.1.getD i fno).op ≠ -1 → l[(plI J (csI outs) who).2.2.countP (isW i)]? = some (decide (((plI J (csI outs) who).2.1.getD i fno).op = 4)) ∧ ((plI J (csI outs) who).2.1.getD i fno).res = 0) ∧
      0 ≤ ilen 1 1 J 0 (plI J (csI outs) who).1) := by
  rcases plI_cases (J := J) who h8 h30 with ⟨_, e⟩ | ⟨hm, h, H, nx, e, g⟩
  · rw [e]; exact .inl ⟨rfl, rfl⟩
  · have e1 : (plI J (csI outs) who).1 = (playI J (csI outs) who).m := by rw [e]
    have e2 : (plI J (csI outs) who).2.1 = (playI J (csI outs) who).a := by rw [e]
    have e3 : (plI J (csI outs) who).2.2 = (playI J (csI outs) who).over := by rw [e]
    right
    simp only [e1, e2, e3]
    exact ⟨g.al, fun j hj hw => g.whoI hl hj hw, (g.whoE hl).1, (g.whoE hl).2, (g.roomI h8 h30).2.1⟩
set_option maxRecDepth 100000 in
set_option maxHeartbeats 8000000 in
theorem who_tells (J ii : Int) (A B : Option Addr) (n c nw cw : Nat) (outs : List (List Bool)) (who : List Int) (w : World) (hG : Rg w A outs) (hW : Ri w B who) (hn : outs.length = n) (hnw : who.length = nw) :
    Tells 9 #[.int .i64 J, .slice A n c, .slice B nw cw, .int .i64 ii] w (.bool true) := by
  have HG := Lib.hid hG
  have HW := Lib.hid hW
  have HN := Lib.hid hn
  have HNW := Lib.hid hnw
  clear hG hW hn hnw
  go_enter Try.func9, Try.ntmps9
  go_wp2_with fail
  refine (awake_any _).mono ?_
  rintro _ w1 ⟨rfl, z1⟩
  have Z1 := Lib.hid z1
  clear z1
  obtain ⟨fb, HFB⟩ : ∃ b, Hid (fewB outs = b) := ⟨_, Lib.hid rfl⟩
  go_wp2_with fail
  refine (Tells.of (fewbits_any A n c outs w1 (HG.out.below Z1.out) HN.out) (v' := .bool fb) (by rw [HFB.out])).mono ?_
  rintro _ w2 ⟨rfl, z2⟩
  have Z2 := Lib.hid (Z1.out.trans (z2.mono Z1.out.size))
  clear z2
  cases fb
  · go_wp2
    go_ret
    exact ⟨rfl, Z2.out⟩
  · have hfb := fewB_of HFB.out
    rw [HN.out] at hfb
    obtain ⟨h8, h30⟩ := hfb
    have H30 := Lib.hid h30
    clear h30
    by_cases h500 : nw ≤ 500
    · by_cases hi0 : 0 ≤ ii
      · by_cases hin : ii < (n : Int)
        · have d_h500 : decide ((nw : Int) > 500) = false := decide_eq_false (by omega)
          have d_hi0 : decide (ii < 0) = false := decide_eq_false (by omega)
          have d_hin : decide (ii ≥ (n : Int)) = false := decide_eq_false (by omega)
          go_wp2_with fail
          refine (calls_any A n c outs w2 (HG.out.below Z2.out) HN.out h8 H30.out).mono ?_
          rintro _ w3 ⟨Q, d, vs, rfl, hv, hl, z3⟩
          have HV := Lib.hid hv
          have HL := Lib.hid hl
          have Z3 := Lib.hid (Z2.out.trans (z3.mono Z2.out.size))
          clear hv hl z3
          go_wp2_with fail
          refine (play_any J Q B n d nw cw vs (csI outs) who w3 HV.out HL.out (HW.out.below Z3.out) (by rw [csI_len]; exact HN.out) HNW.out (by omega) (csI_UF (by rw [HN.out]; exact h8) H30.out).1 (csI_UF (by rw [HN.out]; exact h8) H30.out).2).mono ?_
          obtain ⟨i, rfl⟩ := Int.eq_ofNat_of_zero_le (show 0 ≤ ii by omega)
          have hin2 : i < n := by omega
          have hLo : i < outs.length := by rw [HN.out]; exact hin2
          obtain ⟨l, hl⟩ : ∃ l, outs[i]? = some l := ⟨_, List.getElem?_eq_getElem hLo⟩
          have o5 := plI_who (J := J) who (by rw [HN.out]; exact h8) H30.out hl
          have o4 := (plI_U (J := J) (calls := csI outs) (csI_UF (by rw [HN.out]; exact h8) H30.out).1 (csI_UF (by rw [HN.out]; exact h8) H30.out).2 who).2.2
          rw [HNW.out] at o4
          rw [HN.out] at o5
          generalize plI J (csI outs) who = s at o5 o4 ⊢
          obtain ⟨sm, sa, so⟩ := s
          simp only at o5 o4 ⊢
          obtain ⟨no, hno⟩ : ∃ no, so.length = no := ⟨_, rfl⟩
          obtain ⟨na, hna⟩ : ∃ na, sa.length = na := ⟨_, rfl⟩
          obtain ⟨nm, hnm⟩ : ∃ nm, sm.length = nm := ⟨_, rfl⟩
          rw [hno, hna, hnm] at o4
          rw [hnm, hna] at o5
          have HNO := Lib.hid hno
          have HNA := Lib.hid hna
          have HNM := Lib.hid hnm
          have hno5 : no ≤ 500 := by omega
          have hnm5 : nm ≤ 500 := by omega
          have HLL := Lib.hid hl
          rintro _ w4 ⟨Am, cm, Ao, co, Aa, ca, rfl, rm, ro, _, ra, z4⟩
          simp only [hno, hna, hnm]
          have RM := Lib.hid rm
          have RO := Lib.hid ro
          have RA := Lib.hid ra
          have Z4 := Lib.hid (Z3.out.trans (z4.mono Z3.out.size))
          have HG4 := Lib.hid (HG.out.below Z4.out)
          clear rm ro ra z4 hno hna hnm o4 hl HV HL HW Z1 Z2 Z3 HG
          have g2 : decide (n ≤ i) = false := decide_eq_false (by omega)
          rcases o5 with ⟨rfl, rfl⟩ | ⟨rfl, h3, h4, h5, h6⟩
          · have f1 : decide ((i : Int) ≥ ((0 : Nat) : Int)) = true := decide_eq_true (by omega)
            go_wp2
            go_ret
            exact ⟨rfl, Z4.out⟩
          have H3 := Lib.hid h3
          have H4 := Lib.hid h4
          have H5 := Lib.hid h5
          have H6 := Lib.hid h6
          obtain ⟨L, hLe⟩ : ∃ L, ilen 1 1 J 0 sm = L := ⟨_, rfl⟩
          have HLE := Lib.hid hLe
          have f3 : decide (L ≥ 0) = true := decide_eq_true (by rw [← hLe]; exact h6)
          obtain ⟨ad, rfl, hal, hac⟩ := HG4.out (by omega)
          obtain ⟨RB, cB, hx, hrb⟩ := hac i l HLL.out
          obtain ⟨m, hm⟩ : ∃ m, l.length = m := ⟨_, rfl⟩
          rw [hm] at hx
          have HM := Lib.hid hm
          have HX := Lib.hid hx
          have HRB := Lib.hid hrb
          clear h3 h4 h5 h6 hLe hm hx hrb hac HG4 hLo
          have HKeep : Hid (∀ w', Below w4.heap.size w4 w' → w'.cell? (ad.add i) = some (.slice RB m cB)) := Lib.hid fun w' z => (z.cell (p := ad.add i) (by rw [block_add]; exact hal)).trans HX.out
          have HAL := Lib.hid hal
          clear hal
          go_wp2
          go_loopw [14, 15] (fun q x wr => ∃ (k t : Nat), q = .int .i64 t ∧ x = .int .i64 k ∧ k ≤ no ∧ Hid (t = (so.take k).countP (isW i)) ∧ t ≤ k ∧ Hid (Below w4.heap.size w4 wr)) (fun _ x _ => no - (intOf x).toNat)
          case atStart => exact ⟨0, 0, rfl, rfl, Nat.zero_le _, Lib.hid (by simp), by omega, Lib.hid (Below.refl _ _)⟩
          case round =>
            obtain ⟨k, t, rfl, rfl, hk, HT, ht, HZ⟩ := hrel
            have hx := HKeep.out _ HZ.out
            have hal : ad.block < wr.heap.size := Nat.lt_of_lt_of_le HAL.out HZ.out.size
            by_cases hlt : k < no
            · have hL : k < so.length := by rw [HNO.out]; exact hlt
              obtain ⟨b, off, rfl, hbl, hc7⟩ := (RO.out.later HZ.out).at hL
              have hwh := H3.out k hL
              have hsn : (so.take (k + 1)).countP (isW i) = (so.take k).countP (isW i) + (if so[k].who = (i : Int) then 1 else 0) := by
                rw [List.take_succ_eq_append_getElem hL, List.countP_append, List.countP_singleton]
                simp [isW]
              generalize so[k] = f at hc7 hsn hwh
              obtain ⟨o, p, q, vv, xx, y, r⟩ := f
              obtain ⟨a0, a1, a2, a3, a4, a5, a6⟩ := hc7
              simp only at a0 a1 a2 a3 a4 a5 a6 hsn hwh
              rw [← HT.out] at hsn hwh
              by_cases hq : q = i
              · have e1 : (q != (i : Int)) = false := by simp [hq]
                rw [if_pos hq] at hsn
                obtain ⟨hb1, hr⟩ := hwh hq
                have htm : t < m := by have := (List.getElem?_eq_some_iff.1 hb1).1; rw [HM.out] at this; exact this
                obtain ⟨rb, rfl, hbl2, hbc⟩ := (HRB.out.below HZ.out) (by rw [HM.out]; omega)
                have hy := hbc t _ hb1
                have S2 := Lib.hid hsn
                have d2 : decide ((t : Int) ≥ (m : Int)) = false := decide_eq_false (by omega)
                have hov := fun w => Tells.of (over_any ⟨o, p, q, vv, xx, y, r⟩ w) (v' := .bool true) (by simp [hr])
                have HOV := Lib.hid hov
                clear hov hb1 hr hwh hsn hbc hq
                by_cases ho : o = 4
                · have e2 : (o == 4) = true := by simp [ho]
                  rw [decide_eq_true ho] at hy
                  clear ho
                  go_upto_region 13 with (fail)
                  have K : ∀ w', Below wr.heap.size wr w' → w'.cell? (ad.add i) = some (.slice (some rb) m cB) ∧ w'.cell? (rb.add t) = some (.bool true) ∧ w'.cell? ⟨b, off + k * 7, none⟩ = some (.int .i64 o) ∧ w'.cell? ⟨b, off + k * 7 + 1, none⟩ = some (.int .i64 p) ∧ w'.cell? ⟨b, off + k * 7 + 2, none⟩ = some (.int .i64 q) ∧ w'.cell? ⟨b, off + k * 7 + 3, none⟩ = some (.int .u64 vv) ∧ w'.cell? ⟨b, off + k * 7 + 4, none⟩ = some (.int .u64 xx) ∧ w'.cell? ⟨b, off + k * 7 + 5, none⟩ = some (.int .u64 y) ∧ w'.cell? ⟨b, off + k * 7 + 6, none⟩ = some (.int .i64 r) ∧ Below wr.heap.size wr w' := fun w' z => ⟨(z.cell (p := ad.add i) (by rw [block_add]; exact hal)).trans hx, (z.cell (p := rb.add t) (by rw [block_add]; exact hbl2)).trans hy, (z.cell (p := ⟨b, off + k * 7, none⟩) hbl).trans a0, (z.cell (p := ⟨b, off + k * 7 + 1, none⟩) hbl).trans a1, (z.cell (p := ⟨b, off + k * 7 + 2, none⟩) hbl).trans a2, (z.cell (p := ⟨b, off + k * 7 + 3, none⟩) hbl).trans a3, (z.cell (p := ⟨b, off + k * 7 + 4, none⟩) hbl).trans a4, (z.cell (p := ⟨b, off + k * 7 + 5, none⟩) hbl).trans a5, (z.cell (p := ⟨b, off + k * 7 + 6, none⟩) hbl).trans a6, z⟩
                  have HK := Lib.hid K
                  clear K hx hy a0 a1 a2 a3 a4 a5 a6
                  refine wp_region_held_drew (S := fun w' => w'.cell? (ad.add i) = some (.slice (some rb) m cB) ∧ w'.cell? (rb.add t) = some (.bool true) ∧ w'.cell? ⟨b, off + k * 7, none⟩ = some (.int .i64 o) ∧ w'.cell? ⟨b, off + k * 7 + 1, none⟩ = some (.int .i64 p) ∧ w'.cell? ⟨b, off + k * 7 + 2, none⟩ = some (.int .i64 q) ∧ w'.cell? ⟨b, off + k * 7 + 3, none⟩ = some (.int .u64 vv) ∧ w'.cell? ⟨b, off + k * 7 + 4, none⟩ = some (.int .u64 xx) ∧ w'.cell? ⟨b, off + k * 7 + 5, none⟩ = some (.int .u64 y) ∧ w'.cell? ⟨b, off + k * 7 + 6, none⟩ = some (.int .i64 r) ∧ Below wr.heap.size wr w') (by kernel_rfl) (HK.out _ (keep_drew (Below.refl _ _))) (fun hHeld => ?_)
                  refine wpAnyH_take (i := 0) (oi := { dst := some 70, op := Go.Op.move (Go.Operand.tmp 14), type := 3, pos := "more.go:72", after := #[], guard := none }) (v := ?vp_0) rfl (by kernel_rfl) (by kernel_rfl) (by kernel_rfl) (fun _ _ _ h => h) (Or.inl ⟨by rfl, ?yp_0⟩) (by assumption) ?rp_0
                  case yp_0 => (intro w hSw; (try dsimp only at hSw); go_simp; (try with_reducible rfl))
                  (try simp only [Act.put, List.setIfInBounds_toArray, List.set_cons_zero, List.set_cons_succ])
                  refine wpAnyH_take (i := 1) (oi := { dst := some 71, op := Go.Op.move (Go.Operand.tmp 1), type := 43, pos := "more.go:72", after := #[], guard := none }) (v := ?vp_1) rfl (by kernel_rfl) (by kernel_rfl) (by kernel_rfl) (fun _ _ _ h => h) (Or.inl ⟨by rfl, ?yp_1⟩) (by assumption) ?rp_1
                  case yp_1 => (intro w hSw; (try dsimp only at hSw); go_simp; (try with_reducible rfl))
                  (try simp only [Act.put, List.setIfInBounds_toArray, List.set_cons_zero, List.set_cons_succ])
                  refine wpAnyH_take (i := 2) (oi := { dst := some 72, op := Go.Op.move (Go.Operand.tmp 3), type := 3, pos := "more.go:72", after := #[], guard := none }) (v := ?vp_2) rfl (by kernel_rfl) (by kernel_rfl) (by kernel_rfl) (fun _ _ _ h => h) (Or.inl ⟨by rfl, ?yp_2⟩) (by assumption) ?rp_2
                  case yp_2 => (intro w hSw; (try dsimp only at hSw); go_simp; (try with_reducible rfl))
                  (try simp only [Act.put, List.setIfInBounds_toArray, List.set_cons_zero, List.set_cons_succ])
                  refine wpAnyH_take (i := 3) (oi := { dst := some 73, op := Go.Op.indexAddr 43 (Go.Operand.tmp 71) (Go.Operand.tmp 72), type := 0, pos := "more.go:72", after := #[{ on := 1, ground := Go.Ground.data }, { on := 2, ground := Go.Ground.data }], guard := none }) (v := ?vp_3) rfl (by kernel_rfl) (by kernel_rfl) (by kernel_rfl) (fun _ _ _ h => h) (Or.inl ⟨by rfl, ?yp_3⟩) (by assumption) ?rp_3
                  case yp_3 => (intro w hSw; (try dsimp only at hSw); go_simp; (try with_reducible rfl))
                  (try simp only [Act.put, List.setIfInBounds_toArray, List.set_cons_zero, List.set_cons_succ])
                  refine wpAnyH_take (i := 4) (oi := { dst := some 74, op := Go.Op.load 45 (Go.Operand.tmp 73), type := 45, pos := "more.go:72", after := #[{ on := 3, ground := Go.Ground.data }], guard := none }) (v := ?vp_4) rfl (by kernel_rfl) (by kernel_rfl) (by kernel_rfl) (fun _ _ _ h => h) (Or.inl ⟨by rfl, ?yp_4⟩) (by assumption) ?rp_4
                  case yp_4 => (intro w hSw; (try dsimp only at hSw); go_simp; (try with_reducible rfl))
                  (try simp only [Act.put, List.setIfInBounds_toArray, List.set_cons_zero, List.set_cons_succ])
                  refine wpAnyH_take (i := 5) (oi := { dst := some 75, op := Go.Op.call { callee := Go.Callee.builtin Go.Builtin.len, args := #[Go.Operand.tmp 74], argTypes := #[45] }, type := 3, pos := "more.go:72", after := #[{ on := 4, ground := Go.Ground.data }], guard := none }) (v := ?vp_5) rfl (by kernel_rfl) (by kernel_rfl) (by kernel_rfl) (fun _ _ _ h => h) (Or.inl ⟨by rfl, ?yp_5⟩) (by assumption) ?rp_5
                  case yp_5 => (intro w hSw; (try dsimp only at hSw); go_simp; (try with_reducible rfl))
                  (try simp only [Act.put, List.setIfInBounds_toArray, List.set_cons_zero, List.set_cons_succ])
                  refine wpAnyH_take (i := 6) (oi := { dst := some 76, op := Go.Op.binOp Go.BinOp.geq 3 (Go.Operand.tmp 70) (Go.Operand.tmp 75) 3, type := 4, pos := "more.go:72", after := #[{ on := 0, ground := Go.Ground.data }, { on := 5, ground := Go.Ground.data }], guard := none }) (v := .bool false) rfl (by kernel_rfl) (by kernel_rfl) (by kernel_rfl) (fun _ _ _ h => h) (Or.inl ⟨by rfl, ?yp_6⟩) (by assumption) ?rp_6
                  case yp_6 => (intro w hSw; (try dsimp only at hSw); go_simp; (try simp only [d2]); (try with_reducible rfl))
                  (try simp only [Act.put, List.setIfInBounds_toArray, List.set_cons_zero, List.set_cons_succ])
                  refine wpAnyH_take (i := 7) (oi := { dst := some 77, op := Go.Op.move (Go.Operand.tmp 76), type := 4, pos := "more.go:72", after := #[{ on := 6, ground := Go.Ground.data }], guard := none }) (v := ?vp_7) rfl (by kernel_rfl) (by kernel_rfl) (by kernel_rfl) (fun _ _ _ h => h) (Or.inl ⟨by rfl, ?yp_7⟩) (by assumption) ?rp_7
                  case yp_7 => (intro w hSw; (try dsimp only at hSw); go_simp; (try with_reducible rfl))
                  (try simp only [Act.put, List.setIfInBounds_toArray, List.set_cons_zero, List.set_cons_succ])
                  refine wpAnyH_take (i := 8) (oi := { dst := some 78, op := Go.Op.move (Go.Operand.tmp 12), type := 31, pos := "more.go:72", after := #[{ on := 7, ground := Go.Ground.guard }], guard := some (7, false) }) (v := ?vp_8) rfl (by kernel_rfl) (by kernel_rfl) (by kernel_rfl) (fun _ _ _ h => h) (Or.inl ⟨by rfl, ?yp_8⟩) (by assumption) ?rp_8
                  case yp_8 => (intro w hSw; (try dsimp only at hSw); go_simp; (try with_reducible rfl))
                  (try simp only [Act.put, List.setIfInBounds_toArray, List.set_cons_zero, List.set_cons_succ])
                  refine wpAnyH_take (i := 9) (oi := { dst := some 79, op := Go.Op.move (Go.Operand.tmp 15), type := 3, pos := "more.go:72", after := #[{ on := 7, ground := Go.Ground.guard }], guard := some (7, false) }) (v := ?vp_9) rfl (by kernel_rfl) (by kernel_rfl) (by kernel_rfl) (fun _ _ _ h => h) (Or.inl ⟨by rfl, ?yp_9⟩) (by assumption) ?rp_9
                  case yp_9 => (intro w hSw; (try dsimp only at hSw); go_simp; (try with_reducible rfl))
                  (try simp only [Act.put, List.setIfInBounds_toArray, List.set_cons_zero, List.set_cons_succ])
                  refine wpAnyH_take (i := 10) (oi := { dst := some 80, op := Go.Op.indexAddr 31 (Go.Operand.tmp 78) (Go.Operand.tmp 79), type := 0, pos := "more.go:72", after := #[{ on := 8, ground := Go.Ground.data }, { on := 9, ground := Go.Ground.data }, { on := 7, ground := Go.Ground.guard }], guard := some (7, false) }) (v := ?vp_10) rfl (by kernel_rfl) (by kernel_rfl) (by kernel_rfl) (fun _ _ _ h => h) (Or.inl ⟨by rfl, ?yp_10⟩) (by assumption) ?rp_10
                  case yp_10 => (intro w hSw; (try dsimp only at hSw); go_simp; (try with_reducible rfl))
                  (try simp only [Act.put, List.setIfInBounds_toArray, List.set_cons_zero, List.set_cons_succ])
                  refine wpAnyH_take (i := 11) (oi := { dst := some 81, op := Go.Op.fieldAddr 28 (Go.Operand.tmp 80) 0, type := 0, pos := "more.go:72", after := #[{ on := 10, ground := Go.Ground.data }, { on := 7, ground := Go.Ground.guard }], guard := some (7, false) }) (v := ?vp_11) rfl (by kernel_rfl) (by kernel_rfl) (by kernel_rfl) (fun _ _ _ h => h) (Or.inl ⟨by rfl, ?yp_11⟩) (by assumption) ?rp_11
                  case yp_11 => (intro w hSw; (try dsimp only at hSw); go_simp; (try with_reducible rfl))
                  (try simp only [Act.put, List.setIfInBounds_toArray, List.set_cons_zero, List.set_cons_succ])
                  refine wpAnyH_take (i := 12) (oi := { dst := some 82, op := Go.Op.load 3 (Go.Operand.tmp 81), type := 3, pos := "more.go:72", after := #[{ on := 11, ground := Go.Ground.data }, { on := 7, ground := Go.Ground.guard }], guard := some (7, false) }) (v := ?vp_12) rfl (by kernel_rfl) (by kernel_rfl) (by kernel_rfl) (fun _ _ _ h => h) (Or.inl ⟨by rfl, ?yp_12⟩) (by assumption) ?rp_12
                  case yp_12 => (intro w hSw; (try dsimp only at hSw); go_simp; (try with_reducible rfl))
                  (try simp only [Act.put, List.setIfInBounds_toArray, List.set_cons_zero, List.set_cons_succ])
                  refine wpAnyH_take (i := 13) (oi := { dst := some 83, op := Go.Op.binOp Go.BinOp.eql 3 (Go.Operand.tmp 82) (Go.Operand.const (Go.Value.int Go.IntKind.i64 4)) 3, type := 4, pos := "more.go:72", after := #[{ on := 12, ground := Go.Ground.data }, { on := 7, ground := Go.Ground.guard }], guard := some (7, false) }) (v := .bool true) rfl (by kernel_rfl) (by kernel_rfl) (by kernel_rfl) (fun _ _ _ h => h) (Or.inl ⟨by rfl, ?yp_13⟩) (by assumption) ?rp_13
                  case yp_13 => (intro w hSw; (try dsimp only at hSw); go_simp; (try simp only [e2]); (try with_reducible rfl))
                  (try simp only [Act.put, List.setIfInBounds_toArray, List.set_cons_zero, List.set_cons_succ])
                  refine wpAnyH_take (i := 14) (oi := { dst := some 84, op := Go.Op.move (Go.Operand.tmp 1), type := 43, pos := "more.go:72", after := #[{ on := 7, ground := Go.Ground.guard }], guard := some (7, false) }) (v := ?vp_14) rfl (by kernel_rfl) (by kernel_rfl) (by kernel_rfl) (fun _ _ _ h => h) (Or.inl ⟨by rfl, ?yp_14⟩) (by assumption) ?rp_14
                  case yp_14 => (intro w hSw; (try dsimp only at hSw); go_simp; (try with_reducible rfl))
                  (try simp only [Act.put, List.setIfInBounds_toArray, List.set_cons_zero, List.set_cons_succ])
                  refine wpAnyH_take (i := 15) (oi := { dst := some 85, op := Go.Op.move (Go.Operand.tmp 3), type := 3, pos := "more.go:72", after := #[{ on := 7, ground := Go.Ground.guard }], guard := some (7, false) }) (v := ?vp_15) rfl (by kernel_rfl) (by kernel_rfl) (by kernel_rfl) (fun _ _ _ h => h) (Or.inl ⟨by rfl, ?yp_15⟩) (by assumption) ?rp_15
                  case yp_15 => (intro w hSw; (try dsimp only at hSw); go_simp; (try with_reducible rfl))
                  (try simp only [Act.put, List.setIfInBounds_toArray, List.set_cons_zero, List.set_cons_succ])
                  refine wpAnyH_take (i := 16) (oi := { dst := some 86, op := Go.Op.indexAddr 43 (Go.Operand.tmp 84) (Go.Operand.tmp 85), type := 0, pos := "more.go:72", after := #[{ on := 14, ground := Go.Ground.data }, { on := 15, ground := Go.Ground.data }, { on := 7, ground := Go.Ground.guard }], guard := some (7, false) }) (v := ?vp_16) rfl (by kernel_rfl) (by kernel_rfl) (by kernel_rfl) (fun _ _ _ h => h) (Or.inl ⟨by rfl, ?yp_16⟩) (by assumption) ?rp_16
                  case yp_16 => (intro w hSw; (try dsimp only at hSw); go_simp; (try with_reducible rfl))
                  (try simp only [Act.put, List.setIfInBounds_toArray, List.set_cons_zero, List.set_cons_succ])
                  refine wpAnyH_take (i := 17) (oi := { dst := some 87, op := Go.Op.load 45 (Go.Operand.tmp 86), type := 45, pos := "more.go:72", after := #[{ on := 16, ground := Go.Ground.data }, { on := 7, ground := Go.Ground.guard }], guard := some (7, false) }) (v := ?vp_17) rfl (by kernel_rfl) (by kernel_rfl) (by kernel_rfl) (fun _ _ _ h => h) (Or.inl ⟨by rfl, ?yp_17⟩) (by assumption) ?rp_17
                  case yp_17 => (intro w hSw; (try dsimp only at hSw); go_simp; (try with_reducible rfl))
                  (try simp only [Act.put, List.setIfInBounds_toArray, List.set_cons_zero, List.set_cons_succ])
                  refine wpAnyH_take (i := 18) (oi := { dst := some 88, op := Go.Op.move (Go.Operand.tmp 14), type := 3, pos := "more.go:72", after := #[{ on := 7, ground := Go.Ground.guard }], guard := some (7, false) }) (v := ?vp_18) rfl (by kernel_rfl) (by kernel_rfl) (by kernel_rfl) (fun _ _ _ h => h) (Or.inl ⟨by rfl, ?yp_18⟩) (by assumption) ?rp_18
                  case yp_18 => (intro w hSw; (try dsimp only at hSw); go_simp; (try with_reducible rfl))
                  (try simp only [Act.put, List.setIfInBounds_toArray, List.set_cons_zero, List.set_cons_succ])
                  refine wpAnyH_take (i := 19) (oi := { dst := some 89, op := Go.Op.indexAddr 45 (Go.Operand.tmp 87) (Go.Operand.tmp 88), type := 0, pos := "more.go:72", after := #[{ on := 17, ground := Go.Ground.data }, { on := 18, ground := Go.Ground.data }, { on := 7, ground := Go.Ground.guard }], guard := some (7, false) }) (v := ?vp_19) rfl (by kernel_rfl) (by kernel_rfl) (by kernel_rfl) (fun _ _ _ h => h) (Or.inl ⟨by rfl, ?yp_19⟩) (by assumption) ?rp_19
                  case yp_19 => (intro w hSw; (try dsimp only at hSw); go_simp; (try with_reducible rfl))
                  (try simp only [Act.put, List.setIfInBounds_toArray, List.set_cons_zero, List.set_cons_succ])
                  refine wpAnyH_take (i := 20) (oi := { dst := some 90, op := Go.Op.load 4 (Go.Operand.tmp 89), type := 4, pos := "more.go:72", after := #[{ on := 19, ground := Go.Ground.data }, { on := 7, ground := Go.Ground.guard }], guard := some (7, false) }) (v := ?vp_20) rfl (by kernel_rfl) (by kernel_rfl) (by kernel_rfl) (fun _ _ _ h => h) (Or.inl ⟨by rfl, ?yp_20⟩) (by assumption) ?rp_20
                  case yp_20 => (intro w hSw; (try dsimp only at hSw); go_simp; (try with_reducible rfl))
                  (try simp only [Act.put, List.setIfInBounds_toArray, List.set_cons_zero, List.set_cons_succ])
                  refine wpAnyH_take (i := 21) (oi := { dst := some 91, op := Go.Op.binOp Go.BinOp.neq 4 (Go.Operand.tmp 83) (Go.Operand.tmp 90) 4, type := 4, pos := "more.go:72", after := #[{ on := 13, ground := Go.Ground.data }, { on := 20, ground := Go.Ground.data }, { on := 7, ground := Go.Ground.guard }], guard := some (7, false) }) (v := .bool false) rfl (by kernel_rfl) (by kernel_rfl) (by kernel_rfl) (fun _ _ _ h => h) (Or.inl ⟨by rfl, ?yp_21⟩) (by assumption) ?rp_21
                  case yp_21 => (intro w hSw; (try dsimp only at hSw); go_simp; (try simp only [d2]); (try with_reducible rfl))
                  (try simp only [Act.put, List.setIfInBounds_toArray, List.set_cons_zero, List.set_cons_succ])
                  refine wpAnyH_take (i := 22) (oi := { dst := some 92, op := Go.Op.pick (Go.Operand.tmp 77) (Go.Operand.const (Go.Value.bool true)) (Go.Operand.tmp 91), type := 4, pos := "more.go:72", after := #[{ on := 7, ground := Go.Ground.data }, { on := 21, ground := Go.Ground.data }], guard := none }) (v := ?vp_22) rfl (by kernel_rfl) (by kernel_rfl) (by kernel_rfl) (fun _ _ _ h => h) (Or.inl ⟨by rfl, ?yp_22⟩) (by assumption) ?rp_22
                  case yp_22 => (intro w hSw; (try dsimp only at hSw); go_simp; (try with_reducible rfl))
                  (try simp only [Act.put, List.setIfInBounds_toArray, List.set_cons_zero, List.set_cons_succ])
                  refine wpAnyH_take (i := 23) (oi := { dst := some 93, op := Go.Op.move (Go.Operand.tmp 92), type := 4, pos := "more.go:72", after := #[{ on := 22, ground := Go.Ground.data }, { on := 7, ground := Go.Ground.chain }], guard := none }) (v := ?vp_23) rfl (by kernel_rfl) (by kernel_rfl) (by kernel_rfl) (fun _ _ _ h => h) (Or.inl ⟨by rfl, ?yp_23⟩) (by assumption) ?rp_23
                  case yp_23 => (intro w hSw; (try dsimp only at hSw); go_simp; (try with_reducible rfl))
                  (try simp only [Act.put, List.setIfInBounds_toArray, List.set_cons_zero, List.set_cons_succ])
                  refine wpAnyH_take (i := 24) (oi := { dst := some 94, op := Go.Op.move (Go.Operand.tmp 12), type := 31, pos := "more.go:72", after := #[{ on := 23, ground := Go.Ground.guard }], guard := some (23, false) }) (v := ?vp_24) rfl (by kernel_rfl) (by kernel_rfl) (by kernel_rfl) (fun _ _ _ h => h) (Or.inl ⟨by rfl, ?yp_24⟩) (by assumption) ?rp_24
                  case yp_24 => (intro w hSw; (try dsimp only at hSw); go_simp; (try with_reducible rfl))
                  (try simp only [Act.put, List.setIfInBounds_toArray, List.set_cons_zero, List.set_cons_succ])
                  refine wpAnyH_take (i := 25) (oi := { dst := some 95, op := Go.Op.move (Go.Operand.tmp 15), type := 3, pos := "more.go:72", after := #[{ on := 23, ground := Go.Ground.guard }], guard := some (23, false) }) (v := ?vp_25) rfl (by kernel_rfl) (by kernel_rfl) (by kernel_rfl) (fun _ _ _ h => h) (Or.inl ⟨by rfl, ?yp_25⟩) (by assumption) ?rp_25
                  case yp_25 => (intro w hSw; (try dsimp only at hSw); go_simp; (try with_reducible rfl))
                  (try simp only [Act.put, List.setIfInBounds_toArray, List.set_cons_zero, List.set_cons_succ])
                  refine wpAnyH_take (i := 26) (oi := { dst := some 96, op := Go.Op.indexAddr 31 (Go.Operand.tmp 94) (Go.Operand.tmp 95), type := 0, pos := "more.go:72", after := #[{ on := 24, ground := Go.Ground.data }, { on := 25, ground := Go.Ground.data }, { on := 23, ground := Go.Ground.guard }], guard := some (23, false) }) (v := ?vp_26) rfl (by kernel_rfl) (by kernel_rfl) (by kernel_rfl) (fun _ _ _ h => h) (Or.inl ⟨by rfl, ?yp_26⟩) (by assumption) ?rp_26
                  case yp_26 => (intro w hSw; (try dsimp only at hSw); go_simp; (try with_reducible rfl))
                  (try simp only [Act.put, List.setIfInBounds_toArray, List.set_cons_zero, List.set_cons_succ])
                  refine wpAnyH_take (i := 27) (oi := { dst := some 97, op := Go.Op.load 28 (Go.Operand.tmp 96), type := 28, pos := "more.go:72", after := #[{ on := 26, ground := Go.Ground.data }, { on := 23, ground := Go.Ground.guard }], guard := some (23, false) }) (v := ?vp_27) rfl (by kernel_rfl) (by kernel_rfl) (by kernel_rfl) (fun _ _ _ h => h) (Or.inl ⟨by rfl, ?yp_27⟩) (by assumption) ?rp_27
                  case yp_27 => (intro w hSw; (try dsimp only at hSw); go_simp; (try with_reducible rfl))
                  (try simp only [Act.put, List.setIfInBounds_toArray, List.set_cons_zero, List.set_cons_succ])
                  refine wpAnyH_ready (rs := [28]) (by kernel_rfl) (by simp) ?_
                  refine AllReadyH.cons (o := { dst := some 98, op := Go.Op.call { callee := Go.Callee.value (Go.Operand.func 22), args := #[Go.Operand.tmp 97], argTypes := #[28] }, type := 4, pos := "more.go:72", after := #[{ on := 27, ground := Go.Ground.data }, { on := 23, ground := Go.Ground.chain }, { on := 23, ground := Go.Ground.guard }], guard := some (23, false) }) rfl (fun K hK => ?_) AllReadyH.nil
                  go_simp
                  refine (HOV.out _).mono ?_
                  rintro e w' ⟨rfl, hb⟩
                  go_wp2_with fail
                  refine hK.out _ _ (held_call HK.out (fun _ h => h.2.2.2.2.2.2.2.2.2) hb hHeld) (fun hHeld2 => ?_)
                  clear hK K hHeld
                  have hHeld := hHeld2
                  clear hHeld2
                  (try simp only [Act.put, List.setIfInBounds_toArray, List.set_cons_zero, List.set_cons_succ])
                  refine wpAnyH_take (i := 29) (oi := { dst := some 99, op := Go.Op.unOp Go.UnOp.not 4 (Go.Operand.tmp 98), type := 4, pos := "more.go:72", after := #[{ on := 28, ground := Go.Ground.data }, { on := 23, ground := Go.Ground.guard }], guard := some (23, false) }) (v := ?vp_29) rfl (by kernel_rfl) (by kernel_rfl) (by kernel_rfl) (fun _ _ _ h => h) (Or.inl ⟨by rfl, ?yp_29⟩) (by assumption) ?rp_29
                  case yp_29 => (intro w hSw; (try dsimp only at hSw); go_simp; (try with_reducible rfl))
                  (try simp only [Act.put, List.setIfInBounds_toArray, List.set_cons_zero, List.set_cons_succ])
                  refine wpAnyH_take (i := 30) (oi := { dst := some 100, op := Go.Op.pick (Go.Operand.tmp 93) (Go.Operand.const (Go.Value.bool true)) (Go.Operand.tmp 99), type := 4, pos := "more.go:72", after := #[{ on := 23, ground := Go.Ground.data }, { on := 29, ground := Go.Ground.data }], guard := none }) (v := ?vp_30) rfl (by kernel_rfl) (by kernel_rfl) (by kernel_rfl) (fun _ _ _ h => h) (Or.inl ⟨by rfl, ?yp_30⟩) (by assumption) ?rp_30
                  case yp_30 => (intro w hSw; (try dsimp only at hSw); go_simp; (try with_reducible rfl))
                  (try simp only [Act.put, List.setIfInBounds_toArray, List.set_cons_zero, List.set_cons_succ])
                  refine wpAnyH_done (by kernel_rfl) ?_ _
                  have HEND := Lib.hid (HZ.out.trans ((hHeld.2.2.2.2.2.2.2.2.2).mono HZ.out.size))
                  clear hHeld HK

                  go_wp2
                  go_roundw
                  case rel => exact ⟨k + 1, t + 1, by go_num, by go_num, by omega, Lib.hid S2.out.symm, by omega, HEND⟩
                  case measure => simp [intOf]; omega
                · have e2 : (o == 4) = false := by simp [ho]
                  rw [decide_eq_false ho] at hy
                  clear ho
                  go_upto_region 13 with (fail)
                  have K : ∀ w', Below wr.heap.size wr w' → w'.cell? (ad.add i) = some (.slice (some rb) m cB) ∧ w'.cell? (rb.add t) = some (.bool false) ∧ w'.cell? ⟨b, off + k * 7, none⟩ = some (.int .i64 o) ∧ w'.cell? ⟨b, off + k * 7 + 1, none⟩ = some (.int .i64 p) ∧ w'.cell? ⟨b, off + k * 7 + 2, none⟩ = some (.int .i64 q) ∧ w'.cell? ⟨b, off + k * 7 + 3, none⟩ = some (.int .u64 vv) ∧ w'.cell? ⟨b, off + k * 7 + 4, none⟩ = some (.int .u64 xx) ∧ w'.cell? ⟨b, off + k * 7 + 5, none⟩ = some (.int .u64 y) ∧ w'.cell? ⟨b, off + k * 7 + 6, none⟩ = some (.int .i64 r) ∧ Below wr.heap.size wr w' := fun w' z => ⟨(z.cell (p := ad.add i) (by rw [block_add]; exact hal)).trans hx, (z.cell (p := rb.add t) (by rw [block_add]; exact hbl2)).trans hy, (z.cell (p := ⟨b, off + k * 7, none⟩) hbl).trans a0, (z.cell (p := ⟨b, off + k * 7 + 1, none⟩) hbl).trans a1, (z.cell (p := ⟨b, off + k * 7 + 2, none⟩) hbl).trans a2, (z.cell (p := ⟨b, off + k * 7 + 3, none⟩) hbl).trans a3, (z.cell (p := ⟨b, off + k * 7 + 4, none⟩) hbl).trans a4, (z.cell (p := ⟨b, off + k * 7 + 5, none⟩) hbl).trans a5, (z.cell (p := ⟨b, off + k * 7 + 6, none⟩) hbl).trans a6, z⟩
                  have HK := Lib.hid K
                  clear K hx hy a0 a1 a2 a3 a4 a5 a6
                  refine wp_region_held_drew (S := fun w' => w'.cell? (ad.add i) = some (.slice (some rb) m cB) ∧ w'.cell? (rb.add t) = some (.bool false) ∧ w'.cell? ⟨b, off + k * 7, none⟩ = some (.int .i64 o) ∧ w'.cell? ⟨b, off + k * 7 + 1, none⟩ = some (.int .i64 p) ∧ w'.cell? ⟨b, off + k * 7 + 2, none⟩ = some (.int .i64 q) ∧ w'.cell? ⟨b, off + k * 7 + 3, none⟩ = some (.int .u64 vv) ∧ w'.cell? ⟨b, off + k * 7 + 4, none⟩ = some (.int .u64 xx) ∧ w'.cell? ⟨b, off + k * 7 + 5, none⟩ = some (.int .u64 y) ∧ w'.cell? ⟨b, off + k * 7 + 6, none⟩ = some (.int .i64 r) ∧ Below wr.heap.size wr w') (by kernel_rfl) (HK.out _ (keep_drew (Below.refl _ _))) (fun hHeld => ?_)
                  refine wpAnyH_take (i := 0) (oi := { dst := some 70, op := Go.Op.move (Go.Operand.tmp 14), type := 3, pos := "more.go:72", after := #[], guard := none }) (v := ?vn_0) rfl (by kernel_rfl) (by kernel_rfl) (by kernel_rfl) (fun _ _ _ h => h) (Or.inl ⟨by rfl, ?yn_0⟩) (by assumption) ?rn_0
                  case yn_0 => (intro w hSw; (try dsimp only at hSw); go_simp; (try with_reducible rfl))
                  (try simp only [Act.put, List.setIfInBounds_toArray, List.set_cons_zero, List.set_cons_succ])
                  refine wpAnyH_take (i := 1) (oi := { dst := some 71, op := Go.Op.move (Go.Operand.tmp 1), type := 43, pos := "more.go:72", after := #[], guard := none }) (v := ?vn_1) rfl (by kernel_rfl) (by kernel_rfl) (by kernel_rfl) (fun _ _ _ h => h) (Or.inl ⟨by rfl, ?yn_1⟩) (by assumption) ?rn_1
                  case yn_1 => (intro w hSw; (try dsimp only at hSw); go_simp; (try with_reducible rfl))
                  (try simp only [Act.put, List.setIfInBounds_toArray, List.set_cons_zero, List.set_cons_succ])
                  refine wpAnyH_take (i := 2) (oi := { dst := some 72, op := Go.Op.move (Go.Operand.tmp 3), type := 3, pos := "more.go:72", after := #[], guard := none }) (v := ?vn_2) rfl (by kernel_rfl) (by kernel_rfl) (by kernel_rfl) (fun _ _ _ h => h) (Or.inl ⟨by rfl, ?yn_2⟩) (by assumption) ?rn_2
                  case yn_2 => (intro w hSw; (try dsimp only at hSw); go_simp; (try with_reducible rfl))
                  (try simp only [Act.put, List.setIfInBounds_toArray, List.set_cons_zero, List.set_cons_succ])
                  refine wpAnyH_take (i := 3) (oi := { dst := some 73, op := Go.Op.indexAddr 43 (Go.Operand.tmp 71) (Go.Operand.tmp 72), type := 0, pos := "more.go:72", after := #[{ on := 1, ground := Go.Ground.data }, { on := 2, ground := Go.Ground.data }], guard := none }) (v := ?vn_3) rfl (by kernel_rfl) (by kernel_rfl) (by kernel_rfl) (fun _ _ _ h => h) (Or.inl ⟨by rfl, ?yn_3⟩) (by assumption) ?rn_3
                  case yn_3 => (intro w hSw; (try dsimp only at hSw); go_simp; (try with_reducible rfl))
                  (try simp only [Act.put, List.setIfInBounds_toArray, List.set_cons_zero, List.set_cons_succ])
                  refine wpAnyH_take (i := 4) (oi := { dst := some 74, op := Go.Op.load 45 (Go.Operand.tmp 73), type := 45, pos := "more.go:72", after := #[{ on := 3, ground := Go.Ground.data }], guard := none }) (v := ?vn_4) rfl (by kernel_rfl) (by kernel_rfl) (by kernel_rfl) (fun _ _ _ h => h) (Or.inl ⟨by rfl, ?yn_4⟩) (by assumption) ?rn_4
                  case yn_4 => (intro w hSw; (try dsimp only at hSw); go_simp; (try with_reducible rfl))
                  (try simp only [Act.put, List.setIfInBounds_toArray, List.set_cons_zero, List.set_cons_succ])
                  refine wpAnyH_take (i := 5) (oi := { dst := some 75, op := Go.Op.call { callee := Go.Callee.builtin Go.Builtin.len, args := #[Go.Operand.tmp 74], argTypes := #[45] }, type := 3, pos := "more.go:72", after := #[{ on := 4, ground := Go.Ground.data }], guard := none }) (v := ?vn_5) rfl (by kernel_rfl) (by kernel_rfl) (by kernel_rfl) (fun _ _ _ h => h) (Or.inl ⟨by rfl, ?yn_5⟩) (by assumption) ?rn_5
                  case yn_5 => (intro w hSw; (try dsimp only at hSw); go_simp; (try with_reducible rfl))
                  (try simp only [Act.put, List.setIfInBounds_toArray, List.set_cons_zero, List.set_cons_succ])
                  refine wpAnyH_take (i := 6) (oi := { dst := some 76, op := Go.Op.binOp Go.BinOp.geq 3 (Go.Operand.tmp 70) (Go.Operand.tmp 75) 3, type := 4, pos := "more.go:72", after := #[{ on := 0, ground := Go.Ground.data }, { on := 5, ground := Go.Ground.data }], guard := none }) (v := .bool false) rfl (by kernel_rfl) (by kernel_rfl) (by kernel_rfl) (fun _ _ _ h => h) (Or.inl ⟨by rfl, ?yn_6⟩) (by assumption) ?rn_6
                  case yn_6 => (intro w hSw; (try dsimp only at hSw); go_simp; (try simp only [d2]); (try with_reducible rfl))
                  (try simp only [Act.put, List.setIfInBounds_toArray, List.set_cons_zero, List.set_cons_succ])
                  refine wpAnyH_take (i := 7) (oi := { dst := some 77, op := Go.Op.move (Go.Operand.tmp 76), type := 4, pos := "more.go:72", after := #[{ on := 6, ground := Go.Ground.data }], guard := none }) (v := ?vn_7) rfl (by kernel_rfl) (by kernel_rfl) (by kernel_rfl) (fun _ _ _ h => h) (Or.inl ⟨by rfl, ?yn_7⟩) (by assumption) ?rn_7
                  case yn_7 => (intro w hSw; (try dsimp only at hSw); go_simp; (try with_reducible rfl))
                  (try simp only [Act.put, List.setIfInBounds_toArray, List.set_cons_zero, List.set_cons_succ])
                  refine wpAnyH_take (i := 8) (oi := { dst := some 78, op := Go.Op.move (Go.Operand.tmp 12), type := 31, pos := "more.go:72", after := #[{ on := 7, ground := Go.Ground.guard }], guard := some (7, false) }) (v := ?vn_8) rfl (by kernel_rfl) (by kernel_rfl) (by kernel_rfl) (fun _ _ _ h => h) (Or.inl ⟨by rfl, ?yn_8⟩) (by assumption) ?rn_8
                  case yn_8 => (intro w hSw; (try dsimp only at hSw); go_simp; (try with_reducible rfl))
                  (try simp only [Act.put, List.setIfInBounds_toArray, List.set_cons_zero, List.set_cons_succ])
                  refine wpAnyH_take (i := 9) (oi := { dst := some 79, op := Go.Op.move (Go.Operand.tmp 15), type := 3, pos := "more.go:72", after := #[{ on := 7, ground := Go.Ground.guard }], guard := some (7, false) }) (v := ?vn_9) rfl (by kernel_rfl) (by kernel_rfl) (by kernel_rfl) (fun _ _ _ h => h) (Or.inl ⟨by rfl, ?yn_9⟩) (by assumption) ?rn_9
                  case yn_9 => (intro w hSw; (try dsimp only at hSw); go_simp; (try with_reducible rfl))
                  (try simp only [Act.put, List.setIfInBounds_toArray, List.set_cons_zero, List.set_cons_succ])
                  refine wpAnyH_take (i := 10) (oi := { dst := some 80, op := Go.Op.indexAddr 31 (Go.Operand.tmp 78) (Go.Operand.tmp 79), type := 0, pos := "more.go:72", after := #[{ on := 8, ground := Go.Ground.data }, { on := 9, ground := Go.Ground.data }, { on := 7, ground := Go.Ground.guard }], guard := some (7, false) }) (v := ?vn_10) rfl (by kernel_rfl) (by kernel_rfl) (by kernel_rfl) (fun _ _ _ h => h) (Or.inl ⟨by rfl, ?yn_10⟩) (by assumption) ?rn_10
                  case yn_10 => (intro w hSw; (try dsimp only at hSw); go_simp; (try with_reducible rfl))
                  (try simp only [Act.put, List.setIfInBounds_toArray, List.set_cons_zero, List.set_cons_succ])
                  refine wpAnyH_take (i := 11) (oi := { dst := some 81, op := Go.Op.fieldAddr 28 (Go.Operand.tmp 80) 0, type := 0, pos := "more.go:72", after := #[{ on := 10, ground := Go.Ground.data }, { on := 7, ground := Go.Ground.guard }], guard := some (7, false) }) (v := ?vn_11) rfl (by kernel_rfl) (by kernel_rfl) (by kernel_rfl) (fun _ _ _ h => h) (Or.inl ⟨by rfl, ?yn_11⟩) (by assumption) ?rn_11
                  case yn_11 => (intro w hSw; (try dsimp only at hSw); go_simp; (try with_reducible rfl))
                  (try simp only [Act.put, List.setIfInBounds_toArray, List.set_cons_zero, List.set_cons_succ])
                  refine wpAnyH_take (i := 12) (oi := { dst := some 82, op := Go.Op.load 3 (Go.Operand.tmp 81), type := 3, pos := "more.go:72", after := #[{ on := 11, ground := Go.Ground.data }, { on := 7, ground := Go.Ground.guard }], guard := some (7, false) }) (v := ?vn_12) rfl (by kernel_rfl) (by kernel_rfl) (by kernel_rfl) (fun _ _ _ h => h) (Or.inl ⟨by rfl, ?yn_12⟩) (by assumption) ?rn_12
                  case yn_12 => (intro w hSw; (try dsimp only at hSw); go_simp; (try with_reducible rfl))
                  (try simp only [Act.put, List.setIfInBounds_toArray, List.set_cons_zero, List.set_cons_succ])
                  refine wpAnyH_take (i := 13) (oi := { dst := some 83, op := Go.Op.binOp Go.BinOp.eql 3 (Go.Operand.tmp 82) (Go.Operand.const (Go.Value.int Go.IntKind.i64 4)) 3, type := 4, pos := "more.go:72", after := #[{ on := 12, ground := Go.Ground.data }, { on := 7, ground := Go.Ground.guard }], guard := some (7, false) }) (v := .bool false) rfl (by kernel_rfl) (by kernel_rfl) (by kernel_rfl) (fun _ _ _ h => h) (Or.inl ⟨by rfl, ?yn_13⟩) (by assumption) ?rn_13
                  case yn_13 => (intro w hSw; (try dsimp only at hSw); go_simp; (try simp only [e2]); (try with_reducible rfl))
                  (try simp only [Act.put, List.setIfInBounds_toArray, List.set_cons_zero, List.set_cons_succ])
                  refine wpAnyH_take (i := 14) (oi := { dst := some 84, op := Go.Op.move (Go.Operand.tmp 1), type := 43, pos := "more.go:72", after := #[{ on := 7, ground := Go.Ground.guard }], guard := some (7, false) }) (v := ?vn_14) rfl (by kernel_rfl) (by kernel_rfl) (by kernel_rfl) (fun _ _ _ h => h) (Or.inl ⟨by rfl, ?yn_14⟩) (by assumption) ?rn_14
                  case yn_14 => (intro w hSw; (try dsimp only at hSw); go_simp; (try with_reducible rfl))
                  (try simp only [Act.put, List.setIfInBounds_toArray, List.set_cons_zero, List.set_cons_succ])
                  refine wpAnyH_take (i := 15) (oi := { dst := some 85, op := Go.Op.move (Go.Operand.tmp 3), type := 3, pos := "more.go:72", after := #[{ on := 7, ground := Go.Ground.guard }], guard := some (7, false) }) (v := ?vn_15) rfl (by kernel_rfl) (by kernel_rfl) (by kernel_rfl) (fun _ _ _ h => h) (Or.inl ⟨by rfl, ?yn_15⟩) (by assumption) ?rn_15
                  case yn_15 => (intro w hSw; (try dsimp only at hSw); go_simp; (try with_reducible rfl))
                  (try simp only [Act.put, List.setIfInBounds_toArray, List.set_cons_zero, List.set_cons_succ])
                  refine wpAnyH_take (i := 16) (oi := { dst := some 86, op := Go.Op.indexAddr 43 (Go.Operand.tmp 84) (Go.Operand.tmp 85), type := 0, pos := "more.go:72", after := #[{ on := 14, ground := Go.Ground.data }, { on := 15, ground := Go.Ground.data }, { on := 7, ground := Go.Ground.guard }], guard := some (7, false) }) (v := ?vn_16) rfl (by kernel_rfl) (by kernel_rfl) (by kernel_rfl) (fun _ _ _ h => h) (Or.inl ⟨by rfl, ?yn_16⟩) (by assumption) ?rn_16
                  case yn_16 => (intro w hSw; (try dsimp only at hSw); go_simp; (try with_reducible rfl))
                  (try simp only [Act.put, List.setIfInBounds_toArray, List.set_cons_zero, List.set_cons_succ])
                  refine wpAnyH_take (i := 17) (oi := { dst := some 87, op := Go.Op.load 45 (Go.Operand.tmp 86), type := 45, pos := "more.go:72", after := #[{ on := 16, ground := Go.Ground.data }, { on := 7, ground := Go.Ground.guard }], guard := some (7, false) }) (v := ?vn_17) rfl (by kernel_rfl) (by kernel_rfl) (by kernel_rfl) (fun _ _ _ h => h) (Or.inl ⟨by rfl, ?yn_17⟩) (by assumption) ?rn_17
                  case yn_17 => (intro w hSw; (try dsimp only at hSw); go_simp; (try with_reducible rfl))
                  (try simp only [Act.put, List.setIfInBounds_toArray, List.set_cons_zero, List.set_cons_succ])
                  refine wpAnyH_take (i := 18) (oi := { dst := some 88, op := Go.Op.move (Go.Operand.tmp 14), type := 3, pos := "more.go:72", after := #[{ on := 7, ground := Go.Ground.guard }], guard := some (7, false) }) (v := ?vn_18) rfl (by kernel_rfl) (by kernel_rfl) (by kernel_rfl) (fun _ _ _ h => h) (Or.inl ⟨by rfl, ?yn_18⟩) (by assumption) ?rn_18
                  case yn_18 => (intro w hSw; (try dsimp only at hSw); go_simp; (try with_reducible rfl))
                  (try simp only [Act.put, List.setIfInBounds_toArray, List.set_cons_zero, List.set_cons_succ])
                  refine wpAnyH_take (i := 19) (oi := { dst := some 89, op := Go.Op.indexAddr 45 (Go.Operand.tmp 87) (Go.Operand.tmp 88), type := 0, pos := "more.go:72", after := #[{ on := 17, ground := Go.Ground.data }, { on := 18, ground := Go.Ground.data }, { on := 7, ground := Go.Ground.guard }], guard := some (7, false) }) (v := ?vn_19) rfl (by kernel_rfl) (by kernel_rfl) (by kernel_rfl) (fun _ _ _ h => h) (Or.inl ⟨by rfl, ?yn_19⟩) (by assumption) ?rn_19
                  case yn_19 => (intro w hSw; (try dsimp only at hSw); go_simp; (try with_reducible rfl))
                  (try simp only [Act.put, List.setIfInBounds_toArray, List.set_cons_zero, List.set_cons_succ])
                  refine wpAnyH_take (i := 20) (oi := { dst := some 90, op := Go.Op.load 4 (Go.Operand.tmp 89), type := 4, pos := "more.go:72", after := #[{ on := 19, ground := Go.Ground.data }, { on := 7, ground := Go.Ground.guard }], guard := some (7, false) }) (v := ?vn_20) rfl (by kernel_rfl) (by kernel_rfl) (by kernel_rfl) (fun _ _ _ h => h) (Or.inl ⟨by rfl, ?yn_20⟩) (by assumption) ?rn_20
                  case yn_20 => (intro w hSw; (try dsimp only at hSw); go_simp; (try with_reducible rfl))
                  (try simp only [Act.put, List.setIfInBounds_toArray, List.set_cons_zero, List.set_cons_succ])
                  refine wpAnyH_take (i := 21) (oi := { dst := some 91, op := Go.Op.binOp Go.BinOp.neq 4 (Go.Operand.tmp 83) (Go.Operand.tmp 90) 4, type := 4, pos := "more.go:72", after := #[{ on := 13, ground := Go.Ground.data }, { on := 20, ground := Go.Ground.data }, { on := 7, ground := Go.Ground.guard }], guard := some (7, false) }) (v := .bool false) rfl (by kernel_rfl) (by kernel_rfl) (by kernel_rfl) (fun _ _ _ h => h) (Or.inl ⟨by rfl, ?yn_21⟩) (by assumption) ?rn_21
                  case yn_21 => (intro w hSw; (try dsimp only at hSw); go_simp; (try simp only [d2]); (try with_reducible rfl))
                  (try simp only [Act.put, List.setIfInBounds_toArray, List.set_cons_zero, List.set_cons_succ])
                  refine wpAnyH_take (i := 22) (oi := { dst := some 92, op := Go.Op.pick (Go.Operand.tmp 77) (Go.Operand.const (Go.Value.bool true)) (Go.Operand.tmp 91), type := 4, pos := "more.go:72", after := #[{ on := 7, ground := Go.Ground.data }, { on := 21, ground := Go.Ground.data }], guard := none }) (v := ?vn_22) rfl (by kernel_rfl) (by kernel_rfl) (by kernel_rfl) (fun _ _ _ h => h) (Or.inl ⟨by rfl, ?yn_22⟩) (by assumption) ?rn_22
                  case yn_22 => (intro w hSw; (try dsimp only at hSw); go_simp; (try with_reducible rfl))
                  (try simp only [Act.put, List.setIfInBounds_toArray, List.set_cons_zero, List.set_cons_succ])
                  refine wpAnyH_take (i := 23) (oi := { dst := some 93, op := Go.Op.move (Go.Operand.tmp 92), type := 4, pos := "more.go:72", after := #[{ on := 22, ground := Go.Ground.data }, { on := 7, ground := Go.Ground.chain }], guard := none }) (v := ?vn_23) rfl (by kernel_rfl) (by kernel_rfl) (by kernel_rfl) (fun _ _ _ h => h) (Or.inl ⟨by rfl, ?yn_23⟩) (by assumption) ?rn_23
                  case yn_23 => (intro w hSw; (try dsimp only at hSw); go_simp; (try with_reducible rfl))
                  (try simp only [Act.put, List.setIfInBounds_toArray, List.set_cons_zero, List.set_cons_succ])
                  refine wpAnyH_take (i := 24) (oi := { dst := some 94, op := Go.Op.move (Go.Operand.tmp 12), type := 31, pos := "more.go:72", after := #[{ on := 23, ground := Go.Ground.guard }], guard := some (23, false) }) (v := ?vn_24) rfl (by kernel_rfl) (by kernel_rfl) (by kernel_rfl) (fun _ _ _ h => h) (Or.inl ⟨by rfl, ?yn_24⟩) (by assumption) ?rn_24
                  case yn_24 => (intro w hSw; (try dsimp only at hSw); go_simp; (try with_reducible rfl))
                  (try simp only [Act.put, List.setIfInBounds_toArray, List.set_cons_zero, List.set_cons_succ])
                  refine wpAnyH_take (i := 25) (oi := { dst := some 95, op := Go.Op.move (Go.Operand.tmp 15), type := 3, pos := "more.go:72", after := #[{ on := 23, ground := Go.Ground.guard }], guard := some (23, false) }) (v := ?vn_25) rfl (by kernel_rfl) (by kernel_rfl) (by kernel_rfl) (fun _ _ _ h => h) (Or.inl ⟨by rfl, ?yn_25⟩) (by assumption) ?rn_25
                  case yn_25 => (intro w hSw; (try dsimp only at hSw); go_simp; (try with_reducible rfl))
                  (try simp only [Act.put, List.setIfInBounds_toArray, List.set_cons_zero, List.set_cons_succ])
                  refine wpAnyH_take (i := 26) (oi := { dst := some 96, op := Go.Op.indexAddr 31 (Go.Operand.tmp 94) (Go.Operand.tmp 95), type := 0, pos := "more.go:72", after := #[{ on := 24, ground := Go.Ground.data }, { on := 25, ground := Go.Ground.data }, { on := 23, ground := Go.Ground.guard }], guard := some (23, false) }) (v := ?vn_26) rfl (by kernel_rfl) (by kernel_rfl) (by kernel_rfl) (fun _ _ _ h => h) (Or.inl ⟨by rfl, ?yn_26⟩) (by assumption) ?rn_26
                  case yn_26 => (intro w hSw; (try dsimp only at hSw); go_simp; (try with_reducible rfl))
                  (try simp only [Act.put, List.setIfInBounds_toArray, List.set_cons_zero, List.set_cons_succ])
                  refine wpAnyH_take (i := 27) (oi := { dst := some 97, op := Go.Op.load 28 (Go.Operand.tmp 96), type := 28, pos := "more.go:72", after := #[{ on := 26, ground := Go.Ground.data }, { on := 23, ground := Go.Ground.guard }], guard := some (23, false) }) (v := ?vn_27) rfl (by kernel_rfl) (by kernel_rfl) (by kernel_rfl) (fun _ _ _ h => h) (Or.inl ⟨by rfl, ?yn_27⟩) (by assumption) ?rn_27
                  case yn_27 => (intro w hSw; (try dsimp only at hSw); go_simp; (try with_reducible rfl))
                  (try simp only [Act.put, List.setIfInBounds_toArray, List.set_cons_zero, List.set_cons_succ])
                  refine wpAnyH_ready (rs := [28]) (by kernel_rfl) (by simp) ?_
                  refine AllReadyH.cons (o := { dst := some 98, op := Go.Op.call { callee := Go.Callee.value (Go.Operand.func 22), args := #[Go.Operand.tmp 97], argTypes := #[28] }, type := 4, pos := "more.go:72", after := #[{ on := 27, ground := Go.Ground.data }, { on := 23, ground := Go.Ground.chain }, { on := 23, ground := Go.Ground.guard }], guard := some (23, false) }) rfl (fun K hK => ?_) AllReadyH.nil
                  go_simp
                  refine (HOV.out _).mono ?_
                  rintro e w' ⟨rfl, hb⟩
                  go_wp2_with fail
                  refine hK.out _ _ (held_call HK.out (fun _ h => h.2.2.2.2.2.2.2.2.2) hb hHeld) (fun hHeld2 => ?_)
                  clear hK K hHeld
                  have hHeld := hHeld2
                  clear hHeld2
                  (try simp only [Act.put, List.setIfInBounds_toArray, List.set_cons_zero, List.set_cons_succ])
                  refine wpAnyH_take (i := 29) (oi := { dst := some 99, op := Go.Op.unOp Go.UnOp.not 4 (Go.Operand.tmp 98), type := 4, pos := "more.go:72", after := #[{ on := 28, ground := Go.Ground.data }, { on := 23, ground := Go.Ground.guard }], guard := some (23, false) }) (v := ?vn_29) rfl (by kernel_rfl) (by kernel_rfl) (by kernel_rfl) (fun _ _ _ h => h) (Or.inl ⟨by rfl, ?yn_29⟩) (by assumption) ?rn_29
                  case yn_29 => (intro w hSw; (try dsimp only at hSw); go_simp; (try with_reducible rfl))
                  (try simp only [Act.put, List.setIfInBounds_toArray, List.set_cons_zero, List.set_cons_succ])
                  refine wpAnyH_take (i := 30) (oi := { dst := some 100, op := Go.Op.pick (Go.Operand.tmp 93) (Go.Operand.const (Go.Value.bool true)) (Go.Operand.tmp 99), type := 4, pos := "more.go:72", after := #[{ on := 23, ground := Go.Ground.data }, { on := 29, ground := Go.Ground.data }], guard := none }) (v := ?vn_30) rfl (by kernel_rfl) (by kernel_rfl) (by kernel_rfl) (fun _ _ _ h => h) (Or.inl ⟨by rfl, ?yn_30⟩) (by assumption) ?rn_30
                  case yn_30 => (intro w hSw; (try dsimp only at hSw); go_simp; (try with_reducible rfl))
                  (try simp only [Act.put, List.setIfInBounds_toArray, List.set_cons_zero, List.set_cons_succ])
                  refine wpAnyH_done (by kernel_rfl) ?_ _
                  have HEND := Lib.hid (HZ.out.trans ((hHeld.2.2.2.2.2.2.2.2.2).mono HZ.out.size))
                  clear hHeld HK

                  go_wp2
                  go_roundw
                  case rel => exact ⟨k + 1, t + 1, by go_num, by go_num, by omega, Lib.hid S2.out.symm, by omega, HEND⟩
                  case measure => simp [intOf]; omega
              · have e1 : (q != (i : Int)) = true := by simp [hq]
                rw [if_neg hq] at hsn
                have S2 := Lib.hid hsn
                clear hwh hsn hq
                go_wp2
                go_roundw
                case rel => exact ⟨k + 1, t, rfl, by go_num, by omega, Lib.hid S2.out.symm, by omega, HZ⟩
                case measure => simp [intOf]; omega
            · have hke : k = no := by omega
              subst hke
              have ht2 : t = so.countP (isW i) := by have := HT.out; rw [List.take_of_length_le (by rw [HNO.out]; omega)] at this; exact this
              have h4 := H4.out
              have h5 := H5.out
              rw [← ht2, HM.out] at h4
              rw [← ht2] at h5
              have Z6 := HZ
              have Z5 := Lib.hid (Z4.out.trans (HZ.out.mono Z4.out.size))
              have hLa : i < sa.length := by rw [HNA.out]; exact hin2
              obtain ⟨b, off, rfl, hbl, hc7⟩ := (RA.out.later HZ.out).at hLa
              have hg : sa[i] = sa.getD i fno := by rw [List.getD_eq_getElem?_getD, List.getElem?_eq_getElem hLa]; rfl
              rw [hg] at hc7
              clear hg ht2 HT
              generalize sa.getD i fno = f at hc7 h5
              obtain ⟨o, p, q, vv, xx, y, r⟩ := f
              obtain ⟨a0, a1, a2, a3, a4, a5, a6⟩ := hc7
              simp only at a0 a1 a2 a3 a4 a5 a6 h5
              by_cases hm1 : o = -1
              · have e1 : (o == -1) = true := by simp [hm1]
                have d2 : decide ((t : Int) ≤ (m : Int)) = true := decide_eq_true (by omega)
                clear h5 hm1
                go_wp2
                go_ret
                exact ⟨rfl, Z5.out⟩
              · have e1 : (o == -1) = false := by simp [hm1]
                obtain ⟨hb1, hr⟩ := h5 hm1
                have htm : t < m := by have := (List.getElem?_eq_some_iff.1 hb1).1; rw [HM.out] at this; exact this
                obtain ⟨rb, rfl, hbl2, hbc⟩ := (HRB.out.below HZ.out) (by rw [HM.out]; omega)
                have hy := hbc t _ hb1
                have d2 : decide ((t : Int) < (m : Int)) = true := decide_eq_true (by omega)
                have hov := fun w => Tells.of (over_any ⟨o, p, q, vv, xx, y, r⟩ w) (v' := .bool false) (by simp [hr])
                have HOV := Lib.hid hov
                clear hov hb1 hr h5 hbc hm1 h4
                by_cases ho : o = 4
                · have e2 : (o == 4) = true := by simp [ho]
                  rw [decide_eq_true ho] at hy
                  clear ho
                  go_upto_region 18 with (fail)
                  have K : ∀ w', Below wr.heap.size wr w' → w'.cell? (ad.add i) = some (.slice (some rb) m cB) ∧ w'.cell? (rb.add t) = some (.bool true) ∧ w'.cell? ⟨b, off + i * 7, none⟩ = some (.int .i64 o) ∧ w'.cell? ⟨b, off + i * 7 + 1, none⟩ = some (.int .i64 p) ∧ w'.cell? ⟨b, off + i * 7 + 2, none⟩ = some (.int .i64 q) ∧ w'.cell? ⟨b, off + i * 7 + 3, none⟩ = some (.int .u64 vv) ∧ w'.cell? ⟨b, off + i * 7 + 4, none⟩ = some (.int .u64 xx) ∧ w'.cell? ⟨b, off + i * 7 + 5, none⟩ = some (.int .u64 y) ∧ w'.cell? ⟨b, off + i * 7 + 6, none⟩ = some (.int .i64 r) ∧ Below wr.heap.size wr w' := fun w' z => ⟨(z.cell (p := ad.add i) (by rw [block_add]; exact hal)).trans hx, (z.cell (p := rb.add t) (by rw [block_add]; exact hbl2)).trans hy, (z.cell (p := ⟨b, off + i * 7, none⟩) hbl).trans a0, (z.cell (p := ⟨b, off + i * 7 + 1, none⟩) hbl).trans a1, (z.cell (p := ⟨b, off + i * 7 + 2, none⟩) hbl).trans a2, (z.cell (p := ⟨b, off + i * 7 + 3, none⟩) hbl).trans a3, (z.cell (p := ⟨b, off + i * 7 + 4, none⟩) hbl).trans a4, (z.cell (p := ⟨b, off + i * 7 + 5, none⟩) hbl).trans a5, (z.cell (p := ⟨b, off + i * 7 + 6, none⟩) hbl).trans a6, z⟩
                  have HK := Lib.hid K
                  clear K hx hy a0 a1 a2 a3 a4 a5 a6
                  refine wp_region_held_drew (S := fun w' => w'.cell? (ad.add i) = some (.slice (some rb) m cB) ∧ w'.cell? (rb.add t) = some (.bool true) ∧ w'.cell? ⟨b, off + i * 7, none⟩ = some (.int .i64 o) ∧ w'.cell? ⟨b, off + i * 7 + 1, none⟩ = some (.int .i64 p) ∧ w'.cell? ⟨b, off + i * 7 + 2, none⟩ = some (.int .i64 q) ∧ w'.cell? ⟨b, off + i * 7 + 3, none⟩ = some (.int .u64 vv) ∧ w'.cell? ⟨b, off + i * 7 + 4, none⟩ = some (.int .u64 xx) ∧ w'.cell? ⟨b, off + i * 7 + 5, none⟩ = some (.int .u64 y) ∧ w'.cell? ⟨b, off + i * 7 + 6, none⟩ = some (.int .i64 r) ∧ Below wr.heap.size wr w') (by kernel_rfl) (HK.out _ (keep_drew (Below.refl _ _))) (fun hHeld => ?_)
                  refine wpAnyH_take (i := 0) (oi := { dst := some 116, op := Go.Op.move (Go.Operand.tmp 14), type := 3, pos := "more.go:80", after := #[], guard := none }) (v := ?vu_0) rfl (by kernel_rfl) (by kernel_rfl) (by kernel_rfl) (fun _ _ _ h => h) (Or.inl ⟨by rfl, ?yu_0⟩) (by assumption) ?ru_0
                  case yu_0 => (intro w hSw; (try dsimp only at hSw); go_simp; (try with_reducible rfl))
                  (try simp only [Act.put, List.setIfInBounds_toArray, List.set_cons_zero, List.set_cons_succ])
                  refine wpAnyH_take (i := 1) (oi := { dst := some 117, op := Go.Op.move (Go.Operand.tmp 1), type := 43, pos := "more.go:80", after := #[], guard := none }) (v := ?vu_1) rfl (by kernel_rfl) (by kernel_rfl) (by kernel_rfl) (fun _ _ _ h => h) (Or.inl ⟨by rfl, ?yu_1⟩) (by assumption) ?ru_1
                  case yu_1 => (intro w hSw; (try dsimp only at hSw); go_simp; (try with_reducible rfl))
                  (try simp only [Act.put, List.setIfInBounds_toArray, List.set_cons_zero, List.set_cons_succ])
                  refine wpAnyH_take (i := 2) (oi := { dst := some 118, op := Go.Op.move (Go.Operand.tmp 3), type := 3, pos := "more.go:80", after := #[], guard := none }) (v := ?vu_2) rfl (by kernel_rfl) (by kernel_rfl) (by kernel_rfl) (fun _ _ _ h => h) (Or.inl ⟨by rfl, ?yu_2⟩) (by assumption) ?ru_2
                  case yu_2 => (intro w hSw; (try dsimp only at hSw); go_simp; (try with_reducible rfl))
                  (try simp only [Act.put, List.setIfInBounds_toArray, List.set_cons_zero, List.set_cons_succ])
                  refine wpAnyH_take (i := 3) (oi := { dst := some 119, op := Go.Op.indexAddr 43 (Go.Operand.tmp 117) (Go.Operand.tmp 118), type := 0, pos := "more.go:80", after := #[{ on := 1, ground := Go.Ground.data }, { on := 2, ground := Go.Ground.data }], guard := none }) (v := ?vu_3) rfl (by kernel_rfl) (by kernel_rfl) (by kernel_rfl) (fun _ _ _ h => h) (Or.inl ⟨by rfl, ?yu_3⟩) (by assumption) ?ru_3
                  case yu_3 => (intro w hSw; (try dsimp only at hSw); go_simp; (try with_reducible rfl))
                  (try simp only [Act.put, List.setIfInBounds_toArray, List.set_cons_zero, List.set_cons_succ])
                  refine wpAnyH_take (i := 4) (oi := { dst := some 120, op := Go.Op.load 45 (Go.Operand.tmp 119), type := 45, pos := "more.go:80", after := #[{ on := 3, ground := Go.Ground.data }], guard := none }) (v := ?vu_4) rfl (by kernel_rfl) (by kernel_rfl) (by kernel_rfl) (fun _ _ _ h => h) (Or.inl ⟨by rfl, ?yu_4⟩) (by assumption) ?ru_4
                  case yu_4 => (intro w hSw; (try dsimp only at hSw); go_simp; (try with_reducible rfl))
                  (try simp only [Act.put, List.setIfInBounds_toArray, List.set_cons_zero, List.set_cons_succ])
                  refine wpAnyH_take (i := 5) (oi := { dst := some 121, op := Go.Op.call { callee := Go.Callee.builtin Go.Builtin.len, args := #[Go.Operand.tmp 120], argTypes := #[45] }, type := 3, pos := "more.go:80", after := #[{ on := 4, ground := Go.Ground.data }], guard := none }) (v := ?vu_5) rfl (by kernel_rfl) (by kernel_rfl) (by kernel_rfl) (fun _ _ _ h => h) (Or.inl ⟨by rfl, ?yu_5⟩) (by assumption) ?ru_5
                  case yu_5 => (intro w hSw; (try dsimp only at hSw); go_simp; (try with_reducible rfl))
                  (try simp only [Act.put, List.setIfInBounds_toArray, List.set_cons_zero, List.set_cons_succ])
                  refine wpAnyH_take (i := 6) (oi := { dst := some 122, op := Go.Op.binOp Go.BinOp.lss 3 (Go.Operand.tmp 116) (Go.Operand.tmp 121) 3, type := 4, pos := "more.go:80", after := #[{ on := 0, ground := Go.Ground.data }, { on := 5, ground := Go.Ground.data }], guard := none }) (v := .bool true) rfl (by kernel_rfl) (by kernel_rfl) (by kernel_rfl) (fun _ _ _ h => h) (Or.inl ⟨by rfl, ?yu_6⟩) (by assumption) ?ru_6
                  case yu_6 => (intro w hSw; (try dsimp only at hSw); go_simp; (try simp only [d2]); (try with_reducible rfl))
                  (try simp only [Act.put, List.setIfInBounds_toArray, List.set_cons_zero, List.set_cons_succ])
                  refine wpAnyH_take (i := 7) (oi := { dst := some 123, op := Go.Op.move (Go.Operand.tmp 122), type := 4, pos := "more.go:80", after := #[{ on := 6, ground := Go.Ground.data }], guard := none }) (v := ?vu_7) rfl (by kernel_rfl) (by kernel_rfl) (by kernel_rfl) (fun _ _ _ h => h) (Or.inl ⟨by rfl, ?yu_7⟩) (by assumption) ?ru_7
                  case yu_7 => (intro w hSw; (try dsimp only at hSw); go_simp; (try with_reducible rfl))
                  (try simp only [Act.put, List.setIfInBounds_toArray, List.set_cons_zero, List.set_cons_succ])
                  refine wpAnyH_take (i := 8) (oi := { dst := some 124, op := Go.Op.move (Go.Operand.tmp 13), type := 31, pos := "more.go:80", after := #[{ on := 7, ground := Go.Ground.guard }], guard := some (7, true) }) (v := ?vu_8) rfl (by kernel_rfl) (by kernel_rfl) (by kernel_rfl) (fun _ _ _ h => h) (Or.inl ⟨by rfl, ?yu_8⟩) (by assumption) ?ru_8
                  case yu_8 => (intro w hSw; (try dsimp only at hSw); go_simp; (try with_reducible rfl))
                  (try simp only [Act.put, List.setIfInBounds_toArray, List.set_cons_zero, List.set_cons_succ])
                  refine wpAnyH_take (i := 9) (oi := { dst := some 125, op := Go.Op.move (Go.Operand.tmp 3), type := 3, pos := "more.go:80", after := #[{ on := 7, ground := Go.Ground.guard }], guard := some (7, true) }) (v := ?vu_9) rfl (by kernel_rfl) (by kernel_rfl) (by kernel_rfl) (fun _ _ _ h => h) (Or.inl ⟨by rfl, ?yu_9⟩) (by assumption) ?ru_9
                  case yu_9 => (intro w hSw; (try dsimp only at hSw); go_simp; (try with_reducible rfl))
                  (try simp only [Act.put, List.setIfInBounds_toArray, List.set_cons_zero, List.set_cons_succ])
                  refine wpAnyH_take (i := 10) (oi := { dst := some 126, op := Go.Op.indexAddr 31 (Go.Operand.tmp 124) (Go.Operand.tmp 125), type := 0, pos := "more.go:80", after := #[{ on := 8, ground := Go.Ground.data }, { on := 9, ground := Go.Ground.data }, { on := 7, ground := Go.Ground.guard }], guard := some (7, true) }) (v := ?vu_10) rfl (by kernel_rfl) (by kernel_rfl) (by kernel_rfl) (fun _ _ _ h => h) (Or.inl ⟨by rfl, ?yu_10⟩) (by assumption) ?ru_10
                  case yu_10 => (intro w hSw; (try dsimp only at hSw); go_simp; (try with_reducible rfl))
                  (try simp only [Act.put, List.setIfInBounds_toArray, List.set_cons_zero, List.set_cons_succ])
                  refine wpAnyH_take (i := 11) (oi := { dst := some 127, op := Go.Op.fieldAddr 28 (Go.Operand.tmp 126) 0, type := 0, pos := "more.go:80", after := #[{ on := 10, ground := Go.Ground.data }, { on := 7, ground := Go.Ground.guard }], guard := some (7, true) }) (v := ?vu_11) rfl (by kernel_rfl) (by kernel_rfl) (by kernel_rfl) (fun _ _ _ h => h) (Or.inl ⟨by rfl, ?yu_11⟩) (by assumption) ?ru_11
                  case yu_11 => (intro w hSw; (try dsimp only at hSw); go_simp; (try with_reducible rfl))
                  (try simp only [Act.put, List.setIfInBounds_toArray, List.set_cons_zero, List.set_cons_succ])
                  refine wpAnyH_take (i := 12) (oi := { dst := some 128, op := Go.Op.load 3 (Go.Operand.tmp 127), type := 3, pos := "more.go:80", after := #[{ on := 11, ground := Go.Ground.data }, { on := 7, ground := Go.Ground.guard }], guard := some (7, true) }) (v := ?vu_12) rfl (by kernel_rfl) (by kernel_rfl) (by kernel_rfl) (fun _ _ _ h => h) (Or.inl ⟨by rfl, ?yu_12⟩) (by assumption) ?ru_12
                  case yu_12 => (intro w hSw; (try dsimp only at hSw); go_simp; (try with_reducible rfl))
                  (try simp only [Act.put, List.setIfInBounds_toArray, List.set_cons_zero, List.set_cons_succ])
                  refine wpAnyH_take (i := 13) (oi := { dst := some 129, op := Go.Op.binOp Go.BinOp.eql 3 (Go.Operand.tmp 128) (Go.Operand.const (Go.Value.int Go.IntKind.i64 4)) 3, type := 4, pos := "more.go:80", after := #[{ on := 12, ground := Go.Ground.data }, { on := 7, ground := Go.Ground.guard }], guard := some (7, true) }) (v := .bool true) rfl (by kernel_rfl) (by kernel_rfl) (by kernel_rfl) (fun _ _ _ h => h) (Or.inl ⟨by rfl, ?yu_13⟩) (by assumption) ?ru_13
                  case yu_13 => (intro w hSw; (try dsimp only at hSw); go_simp; (try simp only [e2]); (try with_reducible rfl))
                  (try simp only [Act.put, List.setIfInBounds_toArray, List.set_cons_zero, List.set_cons_succ])
                  refine wpAnyH_take (i := 14) (oi := { dst := some 130, op := Go.Op.move (Go.Operand.tmp 1), type := 43, pos := "more.go:80", after := #[{ on := 7, ground := Go.Ground.guard }], guard := some (7, true) }) (v := ?vu_14) rfl (by kernel_rfl) (by kernel_rfl) (by kernel_rfl) (fun _ _ _ h => h) (Or.inl ⟨by rfl, ?yu_14⟩) (by assumption) ?ru_14
                  case yu_14 => (intro w hSw; (try dsimp only at hSw); go_simp; (try with_reducible rfl))
                  (try simp only [Act.put, List.setIfInBounds_toArray, List.set_cons_zero, List.set_cons_succ])
                  refine wpAnyH_take (i := 15) (oi := { dst := some 131, op := Go.Op.move (Go.Operand.tmp 3), type := 3, pos := "more.go:80", after := #[{ on := 7, ground := Go.Ground.guard }], guard := some (7, true) }) (v := ?vu_15) rfl (by kernel_rfl) (by kernel_rfl) (by kernel_rfl) (fun _ _ _ h => h) (Or.inl ⟨by rfl, ?yu_15⟩) (by assumption) ?ru_15
                  case yu_15 => (intro w hSw; (try dsimp only at hSw); go_simp; (try with_reducible rfl))
                  (try simp only [Act.put, List.setIfInBounds_toArray, List.set_cons_zero, List.set_cons_succ])
                  refine wpAnyH_take (i := 16) (oi := { dst := some 132, op := Go.Op.indexAddr 43 (Go.Operand.tmp 130) (Go.Operand.tmp 131), type := 0, pos := "more.go:80", after := #[{ on := 14, ground := Go.Ground.data }, { on := 15, ground := Go.Ground.data }, { on := 7, ground := Go.Ground.guard }], guard := some (7, true) }) (v := ?vu_16) rfl (by kernel_rfl) (by kernel_rfl) (by kernel_rfl) (fun _ _ _ h => h) (Or.inl ⟨by rfl, ?yu_16⟩) (by assumption) ?ru_16
                  case yu_16 => (intro w hSw; (try dsimp only at hSw); go_simp; (try with_reducible rfl))
                  (try simp only [Act.put, List.setIfInBounds_toArray, List.set_cons_zero, List.set_cons_succ])
                  refine wpAnyH_take (i := 17) (oi := { dst := some 133, op := Go.Op.load 45 (Go.Operand.tmp 132), type := 45, pos := "more.go:80", after := #[{ on := 16, ground := Go.Ground.data }, { on := 7, ground := Go.Ground.guard }], guard := some (7, true) }) (v := ?vu_17) rfl (by kernel_rfl) (by kernel_rfl) (by kernel_rfl) (fun _ _ _ h => h) (Or.inl ⟨by rfl, ?yu_17⟩) (by assumption) ?ru_17
                  case yu_17 => (intro w hSw; (try dsimp only at hSw); go_simp; (try with_reducible rfl))
                  (try simp only [Act.put, List.setIfInBounds_toArray, List.set_cons_zero, List.set_cons_succ])
                  refine wpAnyH_take (i := 18) (oi := { dst := some 134, op := Go.Op.move (Go.Operand.tmp 14), type := 3, pos := "more.go:80", after := #[{ on := 7, ground := Go.Ground.guard }], guard := some (7, true) }) (v := ?vu_18) rfl (by kernel_rfl) (by kernel_rfl) (by kernel_rfl) (fun _ _ _ h => h) (Or.inl ⟨by rfl, ?yu_18⟩) (by assumption) ?ru_18
                  case yu_18 => (intro w hSw; (try dsimp only at hSw); go_simp; (try with_reducible rfl))
                  (try simp only [Act.put, List.setIfInBounds_toArray, List.set_cons_zero, List.set_cons_succ])
                  refine wpAnyH_take (i := 19) (oi := { dst := some 135, op := Go.Op.indexAddr 45 (Go.Operand.tmp 133) (Go.Operand.tmp 134), type := 0, pos := "more.go:80", after := #[{ on := 17, ground := Go.Ground.data }, { on := 18, ground := Go.Ground.data }, { on := 7, ground := Go.Ground.guard }], guard := some (7, true) }) (v := ?vu_19) rfl (by kernel_rfl) (by kernel_rfl) (by kernel_rfl) (fun _ _ _ h => h) (Or.inl ⟨by rfl, ?yu_19⟩) (by assumption) ?ru_19
                  case yu_19 => (intro w hSw; (try dsimp only at hSw); go_simp; (try with_reducible rfl))
                  (try simp only [Act.put, List.setIfInBounds_toArray, List.set_cons_zero, List.set_cons_succ])
                  refine wpAnyH_take (i := 20) (oi := { dst := some 136, op := Go.Op.load 4 (Go.Operand.tmp 135), type := 4, pos := "more.go:80", after := #[{ on := 19, ground := Go.Ground.data }, { on := 7, ground := Go.Ground.guard }], guard := some (7, true) }) (v := ?vu_20) rfl (by kernel_rfl) (by kernel_rfl) (by kernel_rfl) (fun _ _ _ h => h) (Or.inl ⟨by rfl, ?yu_20⟩) (by assumption) ?ru_20
                  case yu_20 => (intro w hSw; (try dsimp only at hSw); go_simp; (try with_reducible rfl))
                  (try simp only [Act.put, List.setIfInBounds_toArray, List.set_cons_zero, List.set_cons_succ])
                  refine wpAnyH_take (i := 21) (oi := { dst := some 137, op := Go.Op.binOp Go.BinOp.eql 4 (Go.Operand.tmp 129) (Go.Operand.tmp 136) 4, type := 4, pos := "more.go:80", after := #[{ on := 13, ground := Go.Ground.data }, { on := 20, ground := Go.Ground.data }, { on := 7, ground := Go.Ground.guard }], guard := some (7, true) }) (v := .bool true) rfl (by kernel_rfl) (by kernel_rfl) (by kernel_rfl) (fun _ _ _ h => h) (Or.inl ⟨by rfl, ?yu_21⟩) (by assumption) ?ru_21
                  case yu_21 => (intro w hSw; (try dsimp only at hSw); go_simp; (try simp only [d2]); (try with_reducible rfl))
                  (try simp only [Act.put, List.setIfInBounds_toArray, List.set_cons_zero, List.set_cons_succ])
                  refine wpAnyH_take (i := 22) (oi := { dst := some 138, op := Go.Op.pick (Go.Operand.tmp 123) (Go.Operand.tmp 137) (Go.Operand.const (Go.Value.bool false)), type := 4, pos := "more.go:80", after := #[{ on := 7, ground := Go.Ground.data }, { on := 21, ground := Go.Ground.data }], guard := none }) (v := ?vu_22) rfl (by kernel_rfl) (by kernel_rfl) (by kernel_rfl) (fun _ _ _ h => h) (Or.inl ⟨by rfl, ?yu_22⟩) (by assumption) ?ru_22
                  case yu_22 => (intro w hSw; (try dsimp only at hSw); go_simp; (try with_reducible rfl))
                  (try simp only [Act.put, List.setIfInBounds_toArray, List.set_cons_zero, List.set_cons_succ])
                  refine wpAnyH_take (i := 23) (oi := { dst := some 139, op := Go.Op.move (Go.Operand.tmp 138), type := 4, pos := "more.go:80", after := #[{ on := 22, ground := Go.Ground.data }, { on := 7, ground := Go.Ground.chain }], guard := none }) (v := ?vu_23) rfl (by kernel_rfl) (by kernel_rfl) (by kernel_rfl) (fun _ _ _ h => h) (Or.inl ⟨by rfl, ?yu_23⟩) (by assumption) ?ru_23
                  case yu_23 => (intro w hSw; (try dsimp only at hSw); go_simp; (try with_reducible rfl))
                  (try simp only [Act.put, List.setIfInBounds_toArray, List.set_cons_zero, List.set_cons_succ])
                  refine wpAnyH_take (i := 24) (oi := { dst := some 140, op := Go.Op.move (Go.Operand.tmp 13), type := 31, pos := "more.go:80", after := #[{ on := 23, ground := Go.Ground.guard }], guard := some (23, true) }) (v := ?vu_24) rfl (by kernel_rfl) (by kernel_rfl) (by kernel_rfl) (fun _ _ _ h => h) (Or.inl ⟨by rfl, ?yu_24⟩) (by assumption) ?ru_24
                  case yu_24 => (intro w hSw; (try dsimp only at hSw); go_simp; (try with_reducible rfl))
                  (try simp only [Act.put, List.setIfInBounds_toArray, List.set_cons_zero, List.set_cons_succ])
                  refine wpAnyH_take (i := 25) (oi := { dst := some 141, op := Go.Op.move (Go.Operand.tmp 3), type := 3, pos := "more.go:80", after := #[{ on := 23, ground := Go.Ground.guard }], guard := some (23, true) }) (v := ?vu_25) rfl (by kernel_rfl) (by kernel_rfl) (by kernel_rfl) (fun _ _ _ h => h) (Or.inl ⟨by rfl, ?yu_25⟩) (by assumption) ?ru_25
                  case yu_25 => (intro w hSw; (try dsimp only at hSw); go_simp; (try with_reducible rfl))
                  (try simp only [Act.put, List.setIfInBounds_toArray, List.set_cons_zero, List.set_cons_succ])
                  refine wpAnyH_take (i := 26) (oi := { dst := some 142, op := Go.Op.indexAddr 31 (Go.Operand.tmp 140) (Go.Operand.tmp 141), type := 0, pos := "more.go:80", after := #[{ on := 24, ground := Go.Ground.data }, { on := 25, ground := Go.Ground.data }, { on := 23, ground := Go.Ground.guard }], guard := some (23, true) }) (v := ?vu_26) rfl (by kernel_rfl) (by kernel_rfl) (by kernel_rfl) (fun _ _ _ h => h) (Or.inl ⟨by rfl, ?yu_26⟩) (by assumption) ?ru_26
                  case yu_26 => (intro w hSw; (try dsimp only at hSw); go_simp; (try with_reducible rfl))
                  (try simp only [Act.put, List.setIfInBounds_toArray, List.set_cons_zero, List.set_cons_succ])
                  refine wpAnyH_take (i := 27) (oi := { dst := some 143, op := Go.Op.load 28 (Go.Operand.tmp 142), type := 28, pos := "more.go:80", after := #[{ on := 26, ground := Go.Ground.data }, { on := 23, ground := Go.Ground.guard }], guard := some (23, true) }) (v := ?vu_27) rfl (by kernel_rfl) (by kernel_rfl) (by kernel_rfl) (fun _ _ _ h => h) (Or.inl ⟨by rfl, ?yu_27⟩) (by assumption) ?ru_27
                  case yu_27 => (intro w hSw; (try dsimp only at hSw); go_simp; (try with_reducible rfl))
                  (try simp only [Act.put, List.setIfInBounds_toArray, List.set_cons_zero, List.set_cons_succ])
                  refine wpAnyH_ready (rs := [28]) (by kernel_rfl) (by simp) ?_
                  refine AllReadyH.cons (o := { dst := some 144, op := Go.Op.call { callee := Go.Callee.value (Go.Operand.func 22), args := #[Go.Operand.tmp 143], argTypes := #[28] }, type := 4, pos := "more.go:80", after := #[{ on := 27, ground := Go.Ground.data }, { on := 23, ground := Go.Ground.chain }, { on := 23, ground := Go.Ground.guard }], guard := some (23, true) }) rfl (fun K hK => ?_) AllReadyH.nil
                  go_simp
                  refine (HOV.out _).mono ?_
                  rintro e w' ⟨rfl, hb⟩
                  go_wp2_with fail
                  refine hK.out _ _ (held_call HK.out (fun _ h => h.2.2.2.2.2.2.2.2.2) hb hHeld) (fun hHeld2 => ?_)
                  clear hK K hHeld
                  have hHeld := hHeld2
                  clear hHeld2
                  (try simp only [Act.put, List.setIfInBounds_toArray, List.set_cons_zero, List.set_cons_succ])
                  refine wpAnyH_take (i := 29) (oi := { dst := some 145, op := Go.Op.unOp Go.UnOp.not 4 (Go.Operand.tmp 144), type := 4, pos := "more.go:80", after := #[{ on := 28, ground := Go.Ground.data }, { on := 23, ground := Go.Ground.guard }], guard := some (23, true) }) (v := ?vu_29) rfl (by kernel_rfl) (by kernel_rfl) (by kernel_rfl) (fun _ _ _ h => h) (Or.inl ⟨by rfl, ?yu_29⟩) (by assumption) ?ru_29
                  case yu_29 => (intro w hSw; (try dsimp only at hSw); go_simp; (try with_reducible rfl))
                  (try simp only [Act.put, List.setIfInBounds_toArray, List.set_cons_zero, List.set_cons_succ])
                  refine wpAnyH_take (i := 30) (oi := { dst := some 146, op := Go.Op.pick (Go.Operand.tmp 139) (Go.Operand.tmp 145) (Go.Operand.const (Go.Value.bool false)), type := 4, pos := "more.go:80", after := #[{ on := 23, ground := Go.Ground.data }, { on := 29, ground := Go.Ground.data }], guard := none }) (v := ?vu_30) rfl (by kernel_rfl) (by kernel_rfl) (by kernel_rfl) (fun _ _ _ h => h) (Or.inl ⟨by rfl, ?yu_30⟩) (by assumption) ?ru_30
                  case yu_30 => (intro w hSw; (try dsimp only at hSw); go_simp; (try with_reducible rfl))
                  (try simp only [Act.put, List.setIfInBounds_toArray, List.set_cons_zero, List.set_cons_succ])
                  refine wpAnyH_take (i := 31) (oi := { dst := some 147, op := Go.Op.move (Go.Operand.tmp 146), type := 4, pos := "more.go:80", after := #[{ on := 30, ground := Go.Ground.data }, { on := 28, ground := Go.Ground.chain }], guard := none }) (v := ?vu_31) rfl (by kernel_rfl) (by kernel_rfl) (by kernel_rfl) (fun _ _ _ h => h) (Or.inl ⟨by rfl, ?yu_31⟩) (by assumption) ?ru_31
                  case yu_31 => (intro w hSw; (try dsimp only at hSw); go_simp; (try with_reducible rfl))
                  (try simp only [Act.put, List.setIfInBounds_toArray, List.set_cons_zero, List.set_cons_succ])
                  refine wpAnyH_take (i := 32) (oi := { dst := some 148, op := Go.Op.move (Go.Operand.tmp 0), type := 3, pos := "more.go:80", after := #[{ on := 31, ground := Go.Ground.guard }], guard := some (31, true) }) (v := ?vu_32) rfl (by kernel_rfl) (by kernel_rfl) (by kernel_rfl) (fun _ _ _ h => h) (Or.inl ⟨by rfl, ?yu_32⟩) (by assumption) ?ru_32
                  case yu_32 => (intro w hSw; (try dsimp only at hSw); go_simp; (try with_reducible rfl))
                  (try simp only [Act.put, List.setIfInBounds_toArray, List.set_cons_zero, List.set_cons_succ])
                  refine wpAnyH_take (i := 33) (oi := { dst := some 149, op := Go.Op.build 23 #[(0, Go.Operand.const (Go.Value.int Go.IntKind.i64 1)), (1, Go.Operand.const (Go.Value.int Go.IntKind.i64 1)), (2, Go.Operand.tmp 148)], type := 23, pos := "more.go:80", after := #[{ on := 32, ground := Go.Ground.data }, { on := 31, ground := Go.Ground.guard }], guard := some (31, true) }) (v := ?vu_33) rfl (by kernel_rfl) (by kernel_rfl) (by kernel_rfl) (fun _ _ _ h => h) (Or.inl ⟨by rfl, ?yu_33⟩) (by assumption) ?ru_33
                  case yu_33 => (intro w hSw; (try dsimp only at hSw); go_simp; (try with_reducible rfl))
                  (try simp only [Act.put, List.setIfInBounds_toArray, List.set_cons_zero, List.set_cons_succ])
                  refine wpAnyH_take (i := 34) (oi := { dst := some 150, op := Go.Op.move (Go.Operand.tmp 11), type := 25, pos := "more.go:80", after := #[{ on := 31, ground := Go.Ground.guard }], guard := some (31, true) }) (v := ?vu_34) rfl (by kernel_rfl) (by kernel_rfl) (by kernel_rfl) (fun _ _ _ h => h) (Or.inl ⟨by rfl, ?yu_34⟩) (by assumption) ?ru_34
                  case yu_34 => (intro w hSw; (try dsimp only at hSw); go_simp; (try with_reducible rfl))
                  (try simp only [Act.put, List.setIfInBounds_toArray, List.set_cons_zero, List.set_cons_succ])
                  refine wpAnyH_ready (rs := [35]) (by kernel_rfl) (by simp) ?_
                  refine AllReadyH.cons (o := { dst := some 151, op := Go.Op.call { callee := Go.Callee.value (Go.Operand.func 24), args := #[Go.Operand.tmp 149, Go.Operand.tmp 150], argTypes := #[23, 25] }, type := 3, pos := "more.go:80", after := #[{ on := 33, ground := Go.Ground.data }, { on := 34, ground := Go.Ground.data }, { on := 31, ground := Go.Ground.chain }, { on := 31, ground := Go.Ground.guard }], guard := some (31, true) }) rfl (fun K hK => ?_) AllReadyH.nil
                  go_simp
                  refine (Tells.of (qlen_any 1 1 J 0 Am nm cm sm _ (RM.out.below (Z6.out.trans ((hHeld.2.2.2.2.2.2.2.2.2).mono Z6.out.size))) HNM.out hnm5) (v' := .int .i64 L) (by rw [HLE.out])).mono ?_
                  rintro e w' ⟨rfl, hb⟩
                  go_wp2_with fail
                  refine hK.out _ _ (held_call HK.out (fun _ h => h.2.2.2.2.2.2.2.2.2) hb hHeld) (fun hHeld2 => ?_)
                  clear hK K hHeld
                  have hHeld := hHeld2
                  clear hHeld2
                  (try simp only [Act.put, List.setIfInBounds_toArray, List.set_cons_zero, List.set_cons_succ])
                  refine wpAnyH_take (i := 36) (oi := { dst := some 152, op := Go.Op.binOp Go.BinOp.geq 3 (Go.Operand.tmp 151) (Go.Operand.const (Go.Value.int Go.IntKind.i64 0)) 3, type := 4, pos := "more.go:80", after := #[{ on := 35, ground := Go.Ground.data }, { on := 31, ground := Go.Ground.guard }], guard := some (31, true) }) (v := .bool true) rfl (by kernel_rfl) (by kernel_rfl) (by kernel_rfl) (fun _ _ _ h => h) (Or.inl ⟨by rfl, ?yu_36⟩) (by assumption) ?ru_36
                  case yu_36 => (intro w hSw; (try dsimp only at hSw); go_simp; (try simp only [f3]); (try with_reducible rfl))
                  (try simp only [Act.put, List.setIfInBounds_toArray, List.set_cons_zero, List.set_cons_succ])
                  refine wpAnyH_take (i := 37) (oi := { dst := some 153, op := Go.Op.pick (Go.Operand.tmp 147) (Go.Operand.tmp 152) (Go.Operand.const (Go.Value.bool false)), type := 4, pos := "more.go:80", after := #[{ on := 31, ground := Go.Ground.data }, { on := 36, ground := Go.Ground.data }], guard := none }) (v := ?vu_37) rfl (by kernel_rfl) (by kernel_rfl) (by kernel_rfl) (fun _ _ _ h => h) (Or.inl ⟨by rfl, ?yu_37⟩) (by assumption) ?ru_37
                  case yu_37 => (intro w hSw; (try dsimp only at hSw); go_simp; (try with_reducible rfl))
                  (try simp only [Act.put, List.setIfInBounds_toArray, List.set_cons_zero, List.set_cons_succ])
                  refine wpAnyH_take (i := 38) (oi := { dst := some 8, op := Go.Op.assign (Go.Operand.tmp 153), type := 4, pos := "more.go:80", after := #[{ on := 37, ground := Go.Ground.data }, { on := 35, ground := Go.Ground.chain }, { on := 0, ground := Go.Ground.phase }, { on := 1, ground := Go.Ground.phase }, { on := 2, ground := Go.Ground.phase }, { on := 3, ground := Go.Ground.phase }, { on := 4, ground := Go.Ground.phase }, { on := 5, ground := Go.Ground.phase }, { on := 6, ground := Go.Ground.phase }, { on := 7, ground := Go.Ground.phase }, { on := 8, ground := Go.Ground.phase }, { on := 9, ground := Go.Ground.phase }, { on := 10, ground := Go.Ground.phase }, { on := 11, ground := Go.Ground.phase }, { on := 12, ground := Go.Ground.phase }, { on := 13, ground := Go.Ground.phase }, { on := 14, ground := Go.Ground.phase }, { on := 15, ground := Go.Ground.phase }, { on := 16, ground := Go.Ground.phase }, { on := 17, ground := Go.Ground.phase }, { on := 18, ground := Go.Ground.phase }, { on := 19, ground := Go.Ground.phase }, { on := 20, ground := Go.Ground.phase }, { on := 21, ground := Go.Ground.phase }, { on := 22, ground := Go.Ground.phase }, { on := 23, ground := Go.Ground.phase }, { on := 24, ground := Go.Ground.phase }, { on := 25, ground := Go.Ground.phase }, { on := 26, ground := Go.Ground.phase }, { on := 27, ground := Go.Ground.phase }, { on := 28, ground := Go.Ground.phase }, { on := 29, ground := Go.Ground.phase }, { on := 30, ground := Go.Ground.phase }, { on := 31, ground := Go.Ground.phase }, { on := 32, ground := Go.Ground.phase }, { on := 33, ground := Go.Ground.phase }, { on := 34, ground := Go.Ground.phase }, { on := 35, ground := Go.Ground.phase }, { on := 36, ground := Go.Ground.phase }, { on := 37, ground := Go.Ground.phase }], guard := none }) (v := ?vu_38) rfl (by kernel_rfl) (by kernel_rfl) (by kernel_rfl) (fun _ _ _ h => h) (Or.inl ⟨by rfl, ?yu_38⟩) (by assumption) ?ru_38
                  case yu_38 => (intro w hSw; (try dsimp only at hSw); go_simp; (try with_reducible rfl))
                  (try simp only [Act.put, List.setIfInBounds_toArray, List.set_cons_zero, List.set_cons_succ])
                  refine wpAnyH_done (by kernel_rfl) ?_ _
                  have HEND := Lib.hid (Z5.out.trans ((hHeld.2.2.2.2.2.2.2.2.2).mono Z5.out.size))
                  clear hHeld HK

                  go_wp2
                  go_ret
                  exact ⟨rfl, HEND.out⟩
                · have e2 : (o == 4) = false := by simp [ho]
                  rw [decide_eq_false ho] at hy
                  clear ho
                  go_upto_region 18 with (fail)
                  have K : ∀ w', Below wr.heap.size wr w' → w'.cell? (ad.add i) = some (.slice (some rb) m cB) ∧ w'.cell? (rb.add t) = some (.bool false) ∧ w'.cell? ⟨b, off + i * 7, none⟩ = some (.int .i64 o) ∧ w'.cell? ⟨b, off + i * 7 + 1, none⟩ = some (.int .i64 p) ∧ w'.cell? ⟨b, off + i * 7 + 2, none⟩ = some (.int .i64 q) ∧ w'.cell? ⟨b, off + i * 7 + 3, none⟩ = some (.int .u64 vv) ∧ w'.cell? ⟨b, off + i * 7 + 4, none⟩ = some (.int .u64 xx) ∧ w'.cell? ⟨b, off + i * 7 + 5, none⟩ = some (.int .u64 y) ∧ w'.cell? ⟨b, off + i * 7 + 6, none⟩ = some (.int .i64 r) ∧ Below wr.heap.size wr w' := fun w' z => ⟨(z.cell (p := ad.add i) (by rw [block_add]; exact hal)).trans hx, (z.cell (p := rb.add t) (by rw [block_add]; exact hbl2)).trans hy, (z.cell (p := ⟨b, off + i * 7, none⟩) hbl).trans a0, (z.cell (p := ⟨b, off + i * 7 + 1, none⟩) hbl).trans a1, (z.cell (p := ⟨b, off + i * 7 + 2, none⟩) hbl).trans a2, (z.cell (p := ⟨b, off + i * 7 + 3, none⟩) hbl).trans a3, (z.cell (p := ⟨b, off + i * 7 + 4, none⟩) hbl).trans a4, (z.cell (p := ⟨b, off + i * 7 + 5, none⟩) hbl).trans a5, (z.cell (p := ⟨b, off + i * 7 + 6, none⟩) hbl).trans a6, z⟩
                  have HK := Lib.hid K
                  clear K hx hy a0 a1 a2 a3 a4 a5 a6
                  refine wp_region_held_drew (S := fun w' => w'.cell? (ad.add i) = some (.slice (some rb) m cB) ∧ w'.cell? (rb.add t) = some (.bool false) ∧ w'.cell? ⟨b, off + i * 7, none⟩ = some (.int .i64 o) ∧ w'.cell? ⟨b, off + i * 7 + 1, none⟩ = some (.int .i64 p) ∧ w'.cell? ⟨b, off + i * 7 + 2, none⟩ = some (.int .i64 q) ∧ w'.cell? ⟨b, off + i * 7 + 3, none⟩ = some (.int .u64 vv) ∧ w'.cell? ⟨b, off + i * 7 + 4, none⟩ = some (.int .u64 xx) ∧ w'.cell? ⟨b, off + i * 7 + 5, none⟩ = some (.int .u64 y) ∧ w'.cell? ⟨b, off + i * 7 + 6, none⟩ = some (.int .i64 r) ∧ Below wr.heap.size wr w') (by kernel_rfl) (HK.out _ (keep_drew (Below.refl _ _))) (fun hHeld => ?_)
                  refine wpAnyH_take (i := 0) (oi := { dst := some 116, op := Go.Op.move (Go.Operand.tmp 14), type := 3, pos := "more.go:80", after := #[], guard := none }) (v := ?vv_0) rfl (by kernel_rfl) (by kernel_rfl) (by kernel_rfl) (fun _ _ _ h => h) (Or.inl ⟨by rfl, ?yv_0⟩) (by assumption) ?rv_0
                  case yv_0 => (intro w hSw; (try dsimp only at hSw); go_simp; (try with_reducible rfl))
                  (try simp only [Act.put, List.setIfInBounds_toArray, List.set_cons_zero, List.set_cons_succ])
                  refine wpAnyH_take (i := 1) (oi := { dst := some 117, op := Go.Op.move (Go.Operand.tmp 1), type := 43, pos := "more.go:80", after := #[], guard := none }) (v := ?vv_1) rfl (by kernel_rfl) (by kernel_rfl) (by kernel_rfl) (fun _ _ _ h => h) (Or.inl ⟨by rfl, ?yv_1⟩) (by assumption) ?rv_1
                  case yv_1 => (intro w hSw; (try dsimp only at hSw); go_simp; (try with_reducible rfl))
                  (try simp only [Act.put, List.setIfInBounds_toArray, List.set_cons_zero, List.set_cons_succ])
                  refine wpAnyH_take (i := 2) (oi := { dst := some 118, op := Go.Op.move (Go.Operand.tmp 3), type := 3, pos := "more.go:80", after := #[], guard := none }) (v := ?vv_2) rfl (by kernel_rfl) (by kernel_rfl) (by kernel_rfl) (fun _ _ _ h => h) (Or.inl ⟨by rfl, ?yv_2⟩) (by assumption) ?rv_2
                  case yv_2 => (intro w hSw; (try dsimp only at hSw); go_simp; (try with_reducible rfl))
                  (try simp only [Act.put, List.setIfInBounds_toArray, List.set_cons_zero, List.set_cons_succ])
                  refine wpAnyH_take (i := 3) (oi := { dst := some 119, op := Go.Op.indexAddr 43 (Go.Operand.tmp 117) (Go.Operand.tmp 118), type := 0, pos := "more.go:80", after := #[{ on := 1, ground := Go.Ground.data }, { on := 2, ground := Go.Ground.data }], guard := none }) (v := ?vv_3) rfl (by kernel_rfl) (by kernel_rfl) (by kernel_rfl) (fun _ _ _ h => h) (Or.inl ⟨by rfl, ?yv_3⟩) (by assumption) ?rv_3
                  case yv_3 => (intro w hSw; (try dsimp only at hSw); go_simp; (try with_reducible rfl))
                  (try simp only [Act.put, List.setIfInBounds_toArray, List.set_cons_zero, List.set_cons_succ])
                  refine wpAnyH_take (i := 4) (oi := { dst := some 120, op := Go.Op.load 45 (Go.Operand.tmp 119), type := 45, pos := "more.go:80", after := #[{ on := 3, ground := Go.Ground.data }], guard := none }) (v := ?vv_4) rfl (by kernel_rfl) (by kernel_rfl) (by kernel_rfl) (fun _ _ _ h => h) (Or.inl ⟨by rfl, ?yv_4⟩) (by assumption) ?rv_4
                  case yv_4 => (intro w hSw; (try dsimp only at hSw); go_simp; (try with_reducible rfl))
                  (try simp only [Act.put, List.setIfInBounds_toArray, List.set_cons_zero, List.set_cons_succ])
                  refine wpAnyH_take (i := 5) (oi := { dst := some 121, op := Go.Op.call { callee := Go.Callee.builtin Go.Builtin.len, args := #[Go.Operand.tmp 120], argTypes := #[45] }, type := 3, pos := "more.go:80", after := #[{ on := 4, ground := Go.Ground.data }], guard := none }) (v := ?vv_5) rfl (by kernel_rfl) (by kernel_rfl) (by kernel_rfl) (fun _ _ _ h => h) (Or.inl ⟨by rfl, ?yv_5⟩) (by assumption) ?rv_5
                  case yv_5 => (intro w hSw; (try dsimp only at hSw); go_simp; (try with_reducible rfl))
                  (try simp only [Act.put, List.setIfInBounds_toArray, List.set_cons_zero, List.set_cons_succ])
                  refine wpAnyH_take (i := 6) (oi := { dst := some 122, op := Go.Op.binOp Go.BinOp.lss 3 (Go.Operand.tmp 116) (Go.Operand.tmp 121) 3, type := 4, pos := "more.go:80", after := #[{ on := 0, ground := Go.Ground.data }, { on := 5, ground := Go.Ground.data }], guard := none }) (v := .bool true) rfl (by kernel_rfl) (by kernel_rfl) (by kernel_rfl) (fun _ _ _ h => h) (Or.inl ⟨by rfl, ?yv_6⟩) (by assumption) ?rv_6
                  case yv_6 => (intro w hSw; (try dsimp only at hSw); go_simp; (try simp only [d2]); (try with_reducible rfl))
                  (try simp only [Act.put, List.setIfInBounds_toArray, List.set_cons_zero, List.set_cons_succ])
                  refine wpAnyH_take (i := 7) (oi := { dst := some 123, op := Go.Op.move (Go.Operand.tmp 122), type := 4, pos := "more.go:80", after := #[{ on := 6, ground := Go.Ground.data }], guard := none }) (v := ?vv_7) rfl (by kernel_rfl) (by kernel_rfl) (by kernel_rfl) (fun _ _ _ h => h) (Or.inl ⟨by rfl, ?yv_7⟩) (by assumption) ?rv_7
                  case yv_7 => (intro w hSw; (try dsimp only at hSw); go_simp; (try with_reducible rfl))
                  (try simp only [Act.put, List.setIfInBounds_toArray, List.set_cons_zero, List.set_cons_succ])
                  refine wpAnyH_take (i := 8) (oi := { dst := some 124, op := Go.Op.move (Go.Operand.tmp 13), type := 31, pos := "more.go:80", after := #[{ on := 7, ground := Go.Ground.guard }], guard := some (7, true) }) (v := ?vv_8) rfl (by kernel_rfl) (by kernel_rfl) (by kernel_rfl) (fun _ _ _ h => h) (Or.inl ⟨by rfl, ?yv_8⟩) (by assumption) ?rv_8
                  case yv_8 => (intro w hSw; (try dsimp only at hSw); go_simp; (try with_reducible rfl))
                  (try simp only [Act.put, List.setIfInBounds_toArray, List.set_cons_zero, List.set_cons_succ])
                  refine wpAnyH_take (i := 9) (oi := { dst := some 125, op := Go.Op.move (Go.Operand.tmp 3), type := 3, pos := "more.go:80", after := #[{ on := 7, ground := Go.Ground.guard }], guard := some (7, true) }) (v := ?vv_9) rfl (by kernel_rfl) (by kernel_rfl) (by kernel_rfl) (fun _ _ _ h => h) (Or.inl ⟨by rfl, ?yv_9⟩) (by assumption) ?rv_9
                  case yv_9 => (intro w hSw; (try dsimp only at hSw); go_simp; (try with_reducible rfl))
                  (try simp only [Act.put, List.setIfInBounds_toArray, List.set_cons_zero, List.set_cons_succ])
                  refine wpAnyH_take (i := 10) (oi := { dst := some 126, op := Go.Op.indexAddr 31 (Go.Operand.tmp 124) (Go.Operand.tmp 125), type := 0, pos := "more.go:80", after := #[{ on := 8, ground := Go.Ground.data }, { on := 9, ground := Go.Ground.data }, { on := 7, ground := Go.Ground.guard }], guard := some (7, true) }) (v := ?vv_10) rfl (by kernel_rfl) (by kernel_rfl) (by kernel_rfl) (fun _ _ _ h => h) (Or.inl ⟨by rfl, ?yv_10⟩) (by assumption) ?rv_10
                  case yv_10 => (intro w hSw; (try dsimp only at hSw); go_simp; (try with_reducible rfl))
                  (try simp only [Act.put, List.setIfInBounds_toArray, List.set_cons_zero, List.set_cons_succ])
                  refine wpAnyH_take (i := 11) (oi := { dst := some 127, op := Go.Op.fieldAddr 28 (Go.Operand.tmp 126) 0, type := 0, pos := "more.go:80", after := #[{ on := 10, ground := Go.Ground.data }, { on := 7, ground := Go.Ground.guard }], guard := some (7, true) }) (v := ?vv_11) rfl (by kernel_rfl) (by kernel_rfl) (by kernel_rfl) (fun _ _ _ h => h) (Or.inl ⟨by rfl, ?yv_11⟩) (by assumption) ?rv_11
                  case yv_11 => (intro w hSw; (try dsimp only at hSw); go_simp; (try with_reducible rfl))
                  (try simp only [Act.put, List.setIfInBounds_toArray, List.set_cons_zero, List.set_cons_succ])
                  refine wpAnyH_take (i := 12) (oi := { dst := some 128, op := Go.Op.load 3 (Go.Operand.tmp 127), type := 3, pos := "more.go:80", after := #[{ on := 11, ground := Go.Ground.data }, { on := 7, ground := Go.Ground.guard }], guard := some (7, true) }) (v := ?vv_12) rfl (by kernel_rfl) (by kernel_rfl) (by kernel_rfl) (fun _ _ _ h => h) (Or.inl ⟨by rfl, ?yv_12⟩) (by assumption) ?rv_12
                  case yv_12 => (intro w hSw; (try dsimp only at hSw); go_simp; (try with_reducible rfl))
                  (try simp only [Act.put, List.setIfInBounds_toArray, List.set_cons_zero, List.set_cons_succ])
                  refine wpAnyH_take (i := 13) (oi := { dst := some 129, op := Go.Op.binOp Go.BinOp.eql 3 (Go.Operand.tmp 128) (Go.Operand.const (Go.Value.int Go.IntKind.i64 4)) 3, type := 4, pos := "more.go:80", after := #[{ on := 12, ground := Go.Ground.data }, { on := 7, ground := Go.Ground.guard }], guard := some (7, true) }) (v := .bool false) rfl (by kernel_rfl) (by kernel_rfl) (by kernel_rfl) (fun _ _ _ h => h) (Or.inl ⟨by rfl, ?yv_13⟩) (by assumption) ?rv_13
                  case yv_13 => (intro w hSw; (try dsimp only at hSw); go_simp; (try simp only [e2]); (try with_reducible rfl))
                  (try simp only [Act.put, List.setIfInBounds_toArray, List.set_cons_zero, List.set_cons_succ])
                  refine wpAnyH_take (i := 14) (oi := { dst := some 130, op := Go.Op.move (Go.Operand.tmp 1), type := 43, pos := "more.go:80", after := #[{ on := 7, ground := Go.Ground.guard }], guard := some (7, true) }) (v := ?vv_14) rfl (by kernel_rfl) (by kernel_rfl) (by kernel_rfl) (fun _ _ _ h => h) (Or.inl ⟨by rfl, ?yv_14⟩) (by assumption) ?rv_14
                  case yv_14 => (intro w hSw; (try dsimp only at hSw); go_simp; (try with_reducible rfl))
                  (try simp only [Act.put, List.setIfInBounds_toArray, List.set_cons_zero, List.set_cons_succ])
                  refine wpAnyH_take (i := 15) (oi := { dst := some 131, op := Go.Op.move (Go.Operand.tmp 3), type := 3, pos := "more.go:80", after := #[{ on := 7, ground := Go.Ground.guard }], guard := some (7, true) }) (v := ?vv_15) rfl (by kernel_rfl) (by kernel_rfl) (by kernel_rfl) (fun _ _ _ h => h) (Or.inl ⟨by rfl, ?yv_15⟩) (by assumption) ?rv_15
                  case yv_15 => (intro w hSw; (try dsimp only at hSw); go_simp; (try with_reducible rfl))
                  (try simp only [Act.put, List.setIfInBounds_toArray, List.set_cons_zero, List.set_cons_succ])
                  refine wpAnyH_take (i := 16) (oi := { dst := some 132, op := Go.Op.indexAddr 43 (Go.Operand.tmp 130) (Go.Operand.tmp 131), type := 0, pos := "more.go:80", after := #[{ on := 14, ground := Go.Ground.data }, { on := 15, ground := Go.Ground.data }, { on := 7, ground := Go.Ground.guard }], guard := some (7, true) }) (v := ?vv_16) rfl (by kernel_rfl) (by kernel_rfl) (by kernel_rfl) (fun _ _ _ h => h) (Or.inl ⟨by rfl, ?yv_16⟩) (by assumption) ?rv_16
                  case yv_16 => (intro w hSw; (try dsimp only at hSw); go_simp; (try with_reducible rfl))
                  (try simp only [Act.put, List.setIfInBounds_toArray, List.set_cons_zero, List.set_cons_succ])
                  refine wpAnyH_take (i := 17) (oi := { dst := some 133, op := Go.Op.load 45 (Go.Operand.tmp 132), type := 45, pos := "more.go:80", after := #[{ on := 16, ground := Go.Ground.data }, { on := 7, ground := Go.Ground.guard }], guard := some (7, true) }) (v := ?vv_17) rfl (by kernel_rfl) (by kernel_rfl) (by kernel_rfl) (fun _ _ _ h => h) (Or.inl ⟨by rfl, ?yv_17⟩) (by assumption) ?rv_17
                  case yv_17 => (intro w hSw; (try dsimp only at hSw); go_simp; (try with_reducible rfl))
                  (try simp only [Act.put, List.setIfInBounds_toArray, List.set_cons_zero, List.set_cons_succ])
                  refine wpAnyH_take (i := 18) (oi := { dst := some 134, op := Go.Op.move (Go.Operand.tmp 14), type := 3, pos := "more.go:80", after := #[{ on := 7, ground := Go.Ground.guard }], guard := some (7, true) }) (v := ?vv_18) rfl (by kernel_rfl) (by kernel_rfl) (by kernel_rfl) (fun _ _ _ h => h) (Or.inl ⟨by rfl, ?yv_18⟩) (by assumption) ?rv_18
                  case yv_18 => (intro w hSw; (try dsimp only at hSw); go_simp; (try with_reducible rfl))
                  (try simp only [Act.put, List.setIfInBounds_toArray, List.set_cons_zero, List.set_cons_succ])
                  refine wpAnyH_take (i := 19) (oi := { dst := some 135, op := Go.Op.indexAddr 45 (Go.Operand.tmp 133) (Go.Operand.tmp 134), type := 0, pos := "more.go:80", after := #[{ on := 17, ground := Go.Ground.data }, { on := 18, ground := Go.Ground.data }, { on := 7, ground := Go.Ground.guard }], guard := some (7, true) }) (v := ?vv_19) rfl (by kernel_rfl) (by kernel_rfl) (by kernel_rfl) (fun _ _ _ h => h) (Or.inl ⟨by rfl, ?yv_19⟩) (by assumption) ?rv_19
                  case yv_19 => (intro w hSw; (try dsimp only at hSw); go_simp; (try with_reducible rfl))
                  (try simp only [Act.put, List.setIfInBounds_toArray, List.set_cons_zero, List.set_cons_succ])
                  refine wpAnyH_take (i := 20) (oi := { dst := some 136, op := Go.Op.load 4 (Go.Operand.tmp 135), type := 4, pos := "more.go:80", after := #[{ on := 19, ground := Go.Ground.data }, { on := 7, ground := Go.Ground.guard }], guard := some (7, true) }) (v := ?vv_20) rfl (by kernel_rfl) (by kernel_rfl) (by kernel_rfl) (fun _ _ _ h => h) (Or.inl ⟨by rfl, ?yv_20⟩) (by assumption) ?rv_20
                  case yv_20 => (intro w hSw; (try dsimp only at hSw); go_simp; (try with_reducible rfl))
                  (try simp only [Act.put, List.setIfInBounds_toArray, List.set_cons_zero, List.set_cons_succ])
                  refine wpAnyH_take (i := 21) (oi := { dst := some 137, op := Go.Op.binOp Go.BinOp.eql 4 (Go.Operand.tmp 129) (Go.Operand.tmp 136) 4, type := 4, pos := "more.go:80", after := #[{ on := 13, ground := Go.Ground.data }, { on := 20, ground := Go.Ground.data }, { on := 7, ground := Go.Ground.guard }], guard := some (7, true) }) (v := .bool true) rfl (by kernel_rfl) (by kernel_rfl) (by kernel_rfl) (fun _ _ _ h => h) (Or.inl ⟨by rfl, ?yv_21⟩) (by assumption) ?rv_21
                  case yv_21 => (intro w hSw; (try dsimp only at hSw); go_simp; (try simp only [d2]); (try with_reducible rfl))
                  (try simp only [Act.put, List.setIfInBounds_toArray, List.set_cons_zero, List.set_cons_succ])
                  refine wpAnyH_take (i := 22) (oi := { dst := some 138, op := Go.Op.pick (Go.Operand.tmp 123) (Go.Operand.tmp 137) (Go.Operand.const (Go.Value.bool false)), type := 4, pos := "more.go:80", after := #[{ on := 7, ground := Go.Ground.data }, { on := 21, ground := Go.Ground.data }], guard := none }) (v := ?vv_22) rfl (by kernel_rfl) (by kernel_rfl) (by kernel_rfl) (fun _ _ _ h => h) (Or.inl ⟨by rfl, ?yv_22⟩) (by assumption) ?rv_22
                  case yv_22 => (intro w hSw; (try dsimp only at hSw); go_simp; (try with_reducible rfl))
                  (try simp only [Act.put, List.setIfInBounds_toArray, List.set_cons_zero, List.set_cons_succ])
                  refine wpAnyH_take (i := 23) (oi := { dst := some 139, op := Go.Op.move (Go.Operand.tmp 138), type := 4, pos := "more.go:80", after := #[{ on := 22, ground := Go.Ground.data }, { on := 7, ground := Go.Ground.chain }], guard := none }) (v := ?vv_23) rfl (by kernel_rfl) (by kernel_rfl) (by kernel_rfl) (fun _ _ _ h => h) (Or.inl ⟨by rfl, ?yv_23⟩) (by assumption) ?rv_23
                  case yv_23 => (intro w hSw; (try dsimp only at hSw); go_simp; (try with_reducible rfl))
                  (try simp only [Act.put, List.setIfInBounds_toArray, List.set_cons_zero, List.set_cons_succ])
                  refine wpAnyH_take (i := 24) (oi := { dst := some 140, op := Go.Op.move (Go.Operand.tmp 13), type := 31, pos := "more.go:80", after := #[{ on := 23, ground := Go.Ground.guard }], guard := some (23, true) }) (v := ?vv_24) rfl (by kernel_rfl) (by kernel_rfl) (by kernel_rfl) (fun _ _ _ h => h) (Or.inl ⟨by rfl, ?yv_24⟩) (by assumption) ?rv_24
                  case yv_24 => (intro w hSw; (try dsimp only at hSw); go_simp; (try with_reducible rfl))
                  (try simp only [Act.put, List.setIfInBounds_toArray, List.set_cons_zero, List.set_cons_succ])
                  refine wpAnyH_take (i := 25) (oi := { dst := some 141, op := Go.Op.move (Go.Operand.tmp 3), type := 3, pos := "more.go:80", after := #[{ on := 23, ground := Go.Ground.guard }], guard := some (23, true) }) (v := ?vv_25) rfl (by kernel_rfl) (by kernel_rfl) (by kernel_rfl) (fun _ _ _ h => h) (Or.inl ⟨by rfl, ?yv_25⟩) (by assumption) ?rv_25
                  case yv_25 => (intro w hSw; (try dsimp only at hSw); go_simp; (try with_reducible rfl))
                  (try simp only [Act.put, List.setIfInBounds_toArray, List.set_cons_zero, List.set_cons_succ])
                  refine wpAnyH_take (i := 26) (oi := { dst := some 142, op := Go.Op.indexAddr 31 (Go.Operand.tmp 140) (Go.Operand.tmp 141), type := 0, pos := "more.go:80", after := #[{ on := 24, ground := Go.Ground.data }, { on := 25, ground := Go.Ground.data }, { on := 23, ground := Go.Ground.guard }], guard := some (23, true) }) (v := ?vv_26) rfl (by kernel_rfl) (by kernel_rfl) (by kernel_rfl) (fun _ _ _ h => h) (Or.inl ⟨by rfl, ?yv_26⟩) (by assumption) ?rv_26
                  case yv_26 => (intro w hSw; (try dsimp only at hSw); go_simp; (try with_reducible rfl))
                  (try simp only [Act.put, List.setIfInBounds_toArray, List.set_cons_zero, List.set_cons_succ])
                  refine wpAnyH_take (i := 27) (oi := { dst := some 143, op := Go.Op.load 28 (Go.Operand.tmp 142), type := 28, pos := "more.go:80", after := #[{ on := 26, ground := Go.Ground.data }, { on := 23, ground := Go.Ground.guard }], guard := some (23, true) }) (v := ?vv_27) rfl (by kernel_rfl) (by kernel_rfl) (by kernel_rfl) (fun _ _ _ h => h) (Or.inl ⟨by rfl, ?yv_27⟩) (by assumption) ?rv_27
                  case yv_27 => (intro w hSw; (try dsimp only at hSw); go_simp; (try with_reducible rfl))
                  (try simp only [Act.put, List.setIfInBounds_toArray, List.set_cons_zero, List.set_cons_succ])
                  refine wpAnyH_ready (rs := [28]) (by kernel_rfl) (by simp) ?_
                  refine AllReadyH.cons (o := { dst := some 144, op := Go.Op.call { callee := Go.Callee.value (Go.Operand.func 22), args := #[Go.Operand.tmp 143], argTypes := #[28] }, type := 4, pos := "more.go:80", after := #[{ on := 27, ground := Go.Ground.data }, { on := 23, ground := Go.Ground.chain }, { on := 23, ground := Go.Ground.guard }], guard := some (23, true) }) rfl (fun K hK => ?_) AllReadyH.nil
                  go_simp
                  refine (HOV.out _).mono ?_
                  rintro e w' ⟨rfl, hb⟩
                  go_wp2_with fail
                  refine hK.out _ _ (held_call HK.out (fun _ h => h.2.2.2.2.2.2.2.2.2) hb hHeld) (fun hHeld2 => ?_)
                  clear hK K hHeld
                  have hHeld := hHeld2
                  clear hHeld2
                  (try simp only [Act.put, List.setIfInBounds_toArray, List.set_cons_zero, List.set_cons_succ])
                  refine wpAnyH_take (i := 29) (oi := { dst := some 145, op := Go.Op.unOp Go.UnOp.not 4 (Go.Operand.tmp 144), type := 4, pos := "more.go:80", after := #[{ on := 28, ground := Go.Ground.data }, { on := 23, ground := Go.Ground.guard }], guard := some (23, true) }) (v := ?vv_29) rfl (by kernel_rfl) (by kernel_rfl) (by kernel_rfl) (fun _ _ _ h => h) (Or.inl ⟨by rfl, ?yv_29⟩) (by assumption) ?rv_29
                  case yv_29 => (intro w hSw; (try dsimp only at hSw); go_simp; (try with_reducible rfl))
                  (try simp only [Act.put, List.setIfInBounds_toArray, List.set_cons_zero, List.set_cons_succ])
                  refine wpAnyH_take (i := 30) (oi := { dst := some 146, op := Go.Op.pick (Go.Operand.tmp 139) (Go.Operand.tmp 145) (Go.Operand.const (Go.Value.bool false)), type := 4, pos := "more.go:80", after := #[{ on := 23, ground := Go.Ground.data }, { on := 29, ground := Go.Ground.data }], guard := none }) (v := ?vv_30) rfl (by kernel_rfl) (by kernel_rfl) (by kernel_rfl) (fun _ _ _ h => h) (Or.inl ⟨by rfl, ?yv_30⟩) (by assumption) ?rv_30
                  case yv_30 => (intro w hSw; (try dsimp only at hSw); go_simp; (try with_reducible rfl))
                  (try simp only [Act.put, List.setIfInBounds_toArray, List.set_cons_zero, List.set_cons_succ])
                  refine wpAnyH_take (i := 31) (oi := { dst := some 147, op := Go.Op.move (Go.Operand.tmp 146), type := 4, pos := "more.go:80", after := #[{ on := 30, ground := Go.Ground.data }, { on := 28, ground := Go.Ground.chain }], guard := none }) (v := ?vv_31) rfl (by kernel_rfl) (by kernel_rfl) (by kernel_rfl) (fun _ _ _ h => h) (Or.inl ⟨by rfl, ?yv_31⟩) (by assumption) ?rv_31
                  case yv_31 => (intro w hSw; (try dsimp only at hSw); go_simp; (try with_reducible rfl))
                  (try simp only [Act.put, List.setIfInBounds_toArray, List.set_cons_zero, List.set_cons_succ])
                  refine wpAnyH_take (i := 32) (oi := { dst := some 148, op := Go.Op.move (Go.Operand.tmp 0), type := 3, pos := "more.go:80", after := #[{ on := 31, ground := Go.Ground.guard }], guard := some (31, true) }) (v := ?vv_32) rfl (by kernel_rfl) (by kernel_rfl) (by kernel_rfl) (fun _ _ _ h => h) (Or.inl ⟨by rfl, ?yv_32⟩) (by assumption) ?rv_32
                  case yv_32 => (intro w hSw; (try dsimp only at hSw); go_simp; (try with_reducible rfl))
                  (try simp only [Act.put, List.setIfInBounds_toArray, List.set_cons_zero, List.set_cons_succ])
                  refine wpAnyH_take (i := 33) (oi := { dst := some 149, op := Go.Op.build 23 #[(0, Go.Operand.const (Go.Value.int Go.IntKind.i64 1)), (1, Go.Operand.const (Go.Value.int Go.IntKind.i64 1)), (2, Go.Operand.tmp 148)], type := 23, pos := "more.go:80", after := #[{ on := 32, ground := Go.Ground.data }, { on := 31, ground := Go.Ground.guard }], guard := some (31, true) }) (v := ?vv_33) rfl (by kernel_rfl) (by kernel_rfl) (by kernel_rfl) (fun _ _ _ h => h) (Or.inl ⟨by rfl, ?yv_33⟩) (by assumption) ?rv_33
                  case yv_33 => (intro w hSw; (try dsimp only at hSw); go_simp; (try with_reducible rfl))
                  (try simp only [Act.put, List.setIfInBounds_toArray, List.set_cons_zero, List.set_cons_succ])
                  refine wpAnyH_take (i := 34) (oi := { dst := some 150, op := Go.Op.move (Go.Operand.tmp 11), type := 25, pos := "more.go:80", after := #[{ on := 31, ground := Go.Ground.guard }], guard := some (31, true) }) (v := ?vv_34) rfl (by kernel_rfl) (by kernel_rfl) (by kernel_rfl) (fun _ _ _ h => h) (Or.inl ⟨by rfl, ?yv_34⟩) (by assumption) ?rv_34
                  case yv_34 => (intro w hSw; (try dsimp only at hSw); go_simp; (try with_reducible rfl))
                  (try simp only [Act.put, List.setIfInBounds_toArray, List.set_cons_zero, List.set_cons_succ])
                  refine wpAnyH_ready (rs := [35]) (by kernel_rfl) (by simp) ?_
                  refine AllReadyH.cons (o := { dst := some 151, op := Go.Op.call { callee := Go.Callee.value (Go.Operand.func 24), args := #[Go.Operand.tmp 149, Go.Operand.tmp 150], argTypes := #[23, 25] }, type := 3, pos := "more.go:80", after := #[{ on := 33, ground := Go.Ground.data }, { on := 34, ground := Go.Ground.data }, { on := 31, ground := Go.Ground.chain }, { on := 31, ground := Go.Ground.guard }], guard := some (31, true) }) rfl (fun K hK => ?_) AllReadyH.nil
                  go_simp
                  refine (Tells.of (qlen_any 1 1 J 0 Am nm cm sm _ (RM.out.below (Z6.out.trans ((hHeld.2.2.2.2.2.2.2.2.2).mono Z6.out.size))) HNM.out hnm5) (v' := .int .i64 L) (by rw [HLE.out])).mono ?_
                  rintro e w' ⟨rfl, hb⟩
                  go_wp2_with fail
                  refine hK.out _ _ (held_call HK.out (fun _ h => h.2.2.2.2.2.2.2.2.2) hb hHeld) (fun hHeld2 => ?_)
                  clear hK K hHeld
                  have hHeld := hHeld2
                  clear hHeld2
                  (try simp only [Act.put, List.setIfInBounds_toArray, List.set_cons_zero, List.set_cons_succ])
                  refine wpAnyH_take (i := 36) (oi := { dst := some 152, op := Go.Op.binOp Go.BinOp.geq 3 (Go.Operand.tmp 151) (Go.Operand.const (Go.Value.int Go.IntKind.i64 0)) 3, type := 4, pos := "more.go:80", after := #[{ on := 35, ground := Go.Ground.data }, { on := 31, ground := Go.Ground.guard }], guard := some (31, true) }) (v := .bool true) rfl (by kernel_rfl) (by kernel_rfl) (by kernel_rfl) (fun _ _ _ h => h) (Or.inl ⟨by rfl, ?yv_36⟩) (by assumption) ?rv_36
                  case yv_36 => (intro w hSw; (try dsimp only at hSw); go_simp; (try simp only [f3]); (try with_reducible rfl))
                  (try simp only [Act.put, List.setIfInBounds_toArray, List.set_cons_zero, List.set_cons_succ])
                  refine wpAnyH_take (i := 37) (oi := { dst := some 153, op := Go.Op.pick (Go.Operand.tmp 147) (Go.Operand.tmp 152) (Go.Operand.const (Go.Value.bool false)), type := 4, pos := "more.go:80", after := #[{ on := 31, ground := Go.Ground.data }, { on := 36, ground := Go.Ground.data }], guard := none }) (v := ?vv_37) rfl (by kernel_rfl) (by kernel_rfl) (by kernel_rfl) (fun _ _ _ h => h) (Or.inl ⟨by rfl, ?yv_37⟩) (by assumption) ?rv_37
                  case yv_37 => (intro w hSw; (try dsimp only at hSw); go_simp; (try with_reducible rfl))
                  (try simp only [Act.put, List.setIfInBounds_toArray, List.set_cons_zero, List.set_cons_succ])
                  refine wpAnyH_take (i := 38) (oi := { dst := some 8, op := Go.Op.assign (Go.Operand.tmp 153), type := 4, pos := "more.go:80", after := #[{ on := 37, ground := Go.Ground.data }, { on := 35, ground := Go.Ground.chain }, { on := 0, ground := Go.Ground.phase }, { on := 1, ground := Go.Ground.phase }, { on := 2, ground := Go.Ground.phase }, { on := 3, ground := Go.Ground.phase }, { on := 4, ground := Go.Ground.phase }, { on := 5, ground := Go.Ground.phase }, { on := 6, ground := Go.Ground.phase }, { on := 7, ground := Go.Ground.phase }, { on := 8, ground := Go.Ground.phase }, { on := 9, ground := Go.Ground.phase }, { on := 10, ground := Go.Ground.phase }, { on := 11, ground := Go.Ground.phase }, { on := 12, ground := Go.Ground.phase }, { on := 13, ground := Go.Ground.phase }, { on := 14, ground := Go.Ground.phase }, { on := 15, ground := Go.Ground.phase }, { on := 16, ground := Go.Ground.phase }, { on := 17, ground := Go.Ground.phase }, { on := 18, ground := Go.Ground.phase }, { on := 19, ground := Go.Ground.phase }, { on := 20, ground := Go.Ground.phase }, { on := 21, ground := Go.Ground.phase }, { on := 22, ground := Go.Ground.phase }, { on := 23, ground := Go.Ground.phase }, { on := 24, ground := Go.Ground.phase }, { on := 25, ground := Go.Ground.phase }, { on := 26, ground := Go.Ground.phase }, { on := 27, ground := Go.Ground.phase }, { on := 28, ground := Go.Ground.phase }, { on := 29, ground := Go.Ground.phase }, { on := 30, ground := Go.Ground.phase }, { on := 31, ground := Go.Ground.phase }, { on := 32, ground := Go.Ground.phase }, { on := 33, ground := Go.Ground.phase }, { on := 34, ground := Go.Ground.phase }, { on := 35, ground := Go.Ground.phase }, { on := 36, ground := Go.Ground.phase }, { on := 37, ground := Go.Ground.phase }], guard := none }) (v := ?vv_38) rfl (by kernel_rfl) (by kernel_rfl) (by kernel_rfl) (fun _ _ _ h => h) (Or.inl ⟨by rfl, ?yv_38⟩) (by assumption) ?rv_38
                  case yv_38 => (intro w hSw; (try dsimp only at hSw); go_simp; (try with_reducible rfl))
                  (try simp only [Act.put, List.setIfInBounds_toArray, List.set_cons_zero, List.set_cons_succ])
                  refine wpAnyH_done (by kernel_rfl) ?_ _
                  have HEND := Lib.hid (Z5.out.trans ((hHeld.2.2.2.2.2.2.2.2.2).mono Z5.out.size))
                  clear hHeld HK

                  go_wp2
                  go_ret
                  exact ⟨rfl, HEND.out⟩
        · have d_h500 : decide ((nw : Int) > 500) = false := decide_eq_false (by omega)
          have d_hi0 : decide (ii < 0) = false := decide_eq_false (by omega)
          have d_hin : decide (ii ≥ (n : Int)) = true := decide_eq_true (by omega)
          go_wp2
          go_ret
          exact ⟨rfl, Z2.out⟩
      · have d_h500 : decide ((nw : Int) > 500) = false := decide_eq_false (by omega)
        have d_hi0 : decide (ii < 0) = true := decide_eq_true (by omega)
        go_wp2
        go_ret
        exact ⟨rfl, Z2.out⟩
    · have d_h500 : decide ((nw : Int) > 500) = true := decide_eq_true (by omega)
      go_wp2
      go_ret
      exact ⟨rfl, Z2.out⟩
end Go.Proofs.Ytppllanmgdhabaa
