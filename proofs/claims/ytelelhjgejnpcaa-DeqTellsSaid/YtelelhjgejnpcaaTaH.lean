/- Contract of the document's own List of layer 12. -/
import Derived.Test.YtelelhjgejnpcaaTaG
import Derived.Test.YtelelhjgejnpcaaLiB
namespace Go.Proofs.Ytelelhjgejnpcaa
open Go.RowKit Go.Deep
theorem rdl_neg (W D J S : Int) (A : Option Addr) (k c : Nat) (m : List Int) (N : Int) (w : World) (h : Rd w A m) (hn : m.length = k) (hu : UM m) (hN : ilen W D J S m = N) (h0 : N < 0) : Calls Try.prog 13 #[cf W D J S, .slice A k c] w (RetL w none) := by
  have H := Lib.hid h
  have HN := Lib.hid hn
  have HU := Lib.hid hu
  have HL := Lib.hid hN
  clear h hn hu hN
  go_enter Try.func13, Try.ntmps13
  go_wp2_with fail
  have hb := (Below.refl w.heap.size w).alloc (Nat.le_refl _) (.cells #[.int .i64 W, .int .i64 D, .int .i64 J, .int .i64 S] 23)
  have BX0 := Bx.mk w W D J S 23
  refine (Tells.of (rlen_any W D J S A k c m _ (H.out.below hb) HN.out HU.out) (v' := .int .i64 N) (by rw [HL.out])).mono ?_
  rintro _ w1 ⟨rfl, z1⟩
  have Z := Lib.hid (hb.trans (z1.mono (by simp)))
  have BX := Lib.hid (BX0.below z1)
  clear z1 hb BX0
  obtain ⟨gx, x0, x1, x2, x3⟩ := BX.out
  go_wp2
  refine bodyPost_ret (by simp [results, Try.results13, go_sem]; try rfl) rfl ?_
  exact ⟨none, 0, rfl, Nat.le_refl _, fun h => by simp at h, Z.out⟩
theorem rdl_many (W D J S : Int) (A : Option Addr) (k c : Nat) (m : List Int) (N : Int) (w : World) (h : Rd w A m) (hn : m.length = k) (hu : UM m) (hN : ilen W D J S m = N) (h0 : ¬ N < 0) (h1 : J < N) : Calls Try.prog 13 #[cf W D J S, .slice A k c] w (RetL w none) := by
  have H := Lib.hid h
  have HN := Lib.hid hn
  have HU := Lib.hid hu
  have HL := Lib.hid hN
  clear h hn hu hN
  go_enter Try.func13, Try.ntmps13
  go_wp2_with fail
  have hb := (Below.refl w.heap.size w).alloc (Nat.le_refl _) (.cells #[.int .i64 W, .int .i64 D, .int .i64 J, .int .i64 S] 23)
  have BX0 := Bx.mk w W D J S 23
  refine (Tells.of (rlen_any W D J S A k c m _ (H.out.below hb) HN.out HU.out) (v' := .int .i64 N) (by rw [HL.out])).mono ?_
  rintro _ w1 ⟨rfl, z1⟩
  have Z := Lib.hid (hb.trans (z1.mono (by simp)))
  have BX := Lib.hid (BX0.below z1)
  clear z1 hb BX0
  obtain ⟨gx, x0, x1, x2, x3⟩ := BX.out
  go_wp2
  refine bodyPost_ret (by simp [results, Try.results13, go_sem]; try rfl) rfl ?_
  exact ⟨none, 0, rfl, Nat.le_refl _, fun h => by simp at h, Z.out⟩
set_option maxHeartbeats 4000000 in
theorem rdl_in (W D J S : Int) (A : Option Addr) (k c : Nat) (m : List Int) (N : Int) (w : World) (h : Rd w A m) (hn : m.length = k) (hu : UM m) (hN : ilen W D J S m = N) (hk : okm W D J S m = true) (h0 : 0 ≤ N) (h1 : N ≤ J) : Calls Try.prog 13 #[cf W D J S, .slice A k c] w (RetL w (ilst W D J S m)) := by
  obtain ⟨hm, hlen⟩ := okm_iff.1 hk
  obtain ⟨_, _, hJ, _⟩ := may_lim hm
  have HSQ := Lib.hid (fun x => tsq_ok (x := x) hm)
  have HVL := Lib.hid (fun x => tvl_ok (x := x) hm)
  have HJ := Lib.hid hJ
  have HN0 := Lib.hid h0
  have HN1 := Lib.hid h1
  have e0 : ¬ N < 0 := by omega
  have e1 : ¬ J < N := by omega
  clear hk h0 h1 hm hJ hlen
  have H := Lib.hid h
  have HN := Lib.hid hn
  have HU := Lib.hid hu
  have HL := Lib.hid hN
  clear h hn hu hN
  go_enter Try.func13, Try.ntmps13
  go_wp2_with fail
  have hb := (Below.refl w.heap.size w).alloc (Nat.le_refl _) (.cells #[.int .i64 W, .int .i64 D, .int .i64 J, .int .i64 S] 23)
  have BX0 := Bx.mk w W D J S 23
  refine (Tells.of (rlen_any W D J S A k c m _ (H.out.below hb) HN.out HU.out) (v' := .int .i64 N) (by rw [HL.out])).mono ?_
  rintro _ w1 ⟨rfl, z1⟩
  have Z := Lib.hid (hb.trans (z1.mono (by simp)))
  have BX := Lib.hid (BX0.below z1)
  clear z1 hb BX0
  obtain ⟨gx, x0, x1, x2, x3⟩ := BX.out
  go_wp2_with fail
  refine (rload_any A k c m 4 _ (H.out.below Z.out) HN.out).mono ?_
  rintro _ w2 ⟨rfl, z⟩
  clear gx x0 x1 x2 x3 e0 e1
  replace Z := Lib.hid (Z.out.trans (z.mono Z.out.size))
  replace BX := Lib.hid (BX.out.below z)
  clear z
  go_wp2
  go_loopw [9, 8] (fun i s wr => ∃ (j : Nat) (l : List Int) (R : Option Addr) (d : Nat), i = .int .i64 j ∧ s = .slice R l.length d ∧ (j : Int) ≤ J ∧ Hid (Pl J m N j l) ∧ Hid (Own wr w2.heap.size R l.length d l) ∧ Hid (Below w2.heap.size w2 wr)) (fun i _ _ => J.toNat - (intOf i).toNat)
  case atStart => exact ⟨0, [], none, 0, rfl, rfl, by have := HJ.out; omega, Lib.hid (Pl.zero _ _ _), Lib.hid (own_nil _ _), Lib.hid (Below.refl _ _)⟩
  case round =>
    obtain ⟨j, l, R, d, rfl, rfl, hj, HP, HOW, HZ⟩ := hrel
    obtain ⟨gx, x0, x1, x2, x3⟩ := BX.out.below HZ.out
    by_cases hlt : (j : Int) < J
    · have hJ16 := HJ.out
      have hj16 : (j : Int) < 16 := by omega
      have hw1 : IntKind.u64.wrap (j : Int) = (j : Int) := by rw [IntKind.wrap_u64]; omega
      obtain ⟨x, hx⟩ : ∃ x, (at0 m 4 + (j : Int)) % 18446744073709551616 = x := ⟨_, rfl⟩
      have hw2 : IntKind.u64.wrap (at0 m 4 + (j : Int)) = x := by rw [IntKind.wrap_u64, hx]
      have hxu : U x := by rw [← hx]; exact mod_U _
      have HX := Lib.hid hxu
      have HXX := Lib.hid hx
      obtain ⟨Y, hY⟩ : ∃ Y, at0 m (sqI J x) = Y := ⟨_, rfl⟩
      have HY := Lib.hid hY
      have q1 : IntKind.u64.wrap J = J := by rw [IntKind.wrap_u64]; omega
      have q2 : x.tdiv J = x / J := Int.tdiv_eq_ediv_of_nonneg hxu.1
      have q3 : 0 ≤ x / J := Int.ediv_nonneg hxu.1 (by omega)
      have q4 : x / J ≤ x := Int.ediv_le_self _ hxu.1
      have q5 : IntKind.u64.wrap (x / J) = x / J := by have := hxu.2; rw [IntKind.wrap_u64]; omega
      obtain ⟨T0, hT0⟩ : ∃ T0, tw J x % 18446744073709551616 = T0 := ⟨_, rfl⟩
      have q6 : IntKind.u64.wrap (2 * (x / J)) = T0 := by rw [← hT0]; unfold tw; rw [IntKind.wrap_u64]
      obtain ⟨T1, hT1⟩ : ∃ T1, (tw J x + 1) % 18446744073709551616 = T1 := ⟨_, rfl⟩
      have q8 : IntKind.u64.wrap (T0 + 1) = T1 := by rw [IntKind.wrap_u64, ← hT0, ← hT1]; omega
      have q7 : ¬ J = 0 := by omega
      have HT0 := Lib.hid hT0
      have HT1 := Lib.hid hT1
      have hll : l.length ≤ 16 := by rw [HP.out.2]; simp; omega
      have HLL := Lib.hid hll
      clear hx hxu hY q3 q4 hT0 hT1 hll hJ16
      generalize x / J = r at q2 q5 q6
      go_wp2_with fail
      refine (Tells.of (rseq_any W D J S x _ HX.out) (v' := .int .i64 (sqI J x)) (by rw [HSQ.out])).mono ?_
      rintro _ w3 ⟨rfl, z⟩
      clear gx x0 x1 x2 x3
      replace HZ := Lib.hid (keep_call z HZ.out)
      replace HOW := Lib.hid (HOW.out.after z)
      clear z
      go_wp2_with fail
      refine (ret_of (rload_any A k c m (sqI J x) _ (H.out.below (Z.out.trans (HZ.out.mono Z.out.size))) HN.out) (v' := .int .u64 Y) (by rw [HY.out])).mono ?_
      rintro _ w4 ⟨rfl, z⟩
      replace HZ := Lib.hid (keep_call z HZ.out)
      replace HOW := Lib.hid (HOW.out.after z)
      clear z
      obtain ⟨gx, x0, x1, x2, x3⟩ := BX.out.below HZ.out
      have hjJ : j < J.toNat := by omega
      have HJJ := Lib.hid hjJ
      clear hjJ
      by_cases hin : (j : Int) < N
      · have SA := Lib.hid (seqAt_in HXX.out HY.out HT1.out hin)
        have hge : ¬ N ≤ (j : Int) := by omega
        cases hb : (Y == T1)
        · have hb2 : (Y != T1) = true := by rw [bne, hb]; rfl
          have SB := Lib.hid (SA.out.trans hb)
          clear SA hb
          go_wp2
          refine bodyPost_ret (by simp [results, Try.results13, go_sem]; try rfl) rfl ?_
          rw [ilst_bad HJJ.out (by rw [HL.out]; exact SB.out)]
          exact ⟨none, 0, rfl, Nat.le_refl _, fun h => by simp at h, Z.out.trans (HZ.out.mono Z.out.size)⟩
        · have hb2 : (Y != T1) = false := by rw [bne, hb]; rfl
          have SB := Lib.hid (SA.out.trans hb)
          clear SA hb
          obtain ⟨V, hV⟩ : ∃ V, at0 m (vlI J x) = V := ⟨_, rfl⟩
          have HV := Lib.hid hV
          have HP2 := Lib.hid (show Pl J m N (j + 1) (l ++ [V]) by rw [← hV, ← HXX.out]; exact HP.out.in_ SB.out hin)
          clear hV
          go_wp2_with fail
          refine (Tells.of (rval_any W D J S x _ HX.out) (v' := .int .i64 (vlI J x)) (by rw [HVL.out])).mono ?_
          rintro _ w5 ⟨rfl, z⟩
          clear gx x0 x1 x2 x3
          replace HZ := Lib.hid (keep_call z HZ.out)
          replace HOW := Lib.hid (HOW.out.after z)
          clear z
          go_wp2_with fail
          refine (ret_of (rload_any A k c m (vlI J x) _ (H.out.below (Z.out.trans (HZ.out.mono Z.out.size))) HN.out) (v' := .int .u64 V) (by rw [HV.out])).mono ?_
          rintro _ w6 ⟨rfl, z⟩
          replace HZ := Lib.hid (keep_call z HZ.out)
          replace HOW := Lib.hid (HOW.out.after z)
          clear z
          have za := bel_alloc w6 (.cells #[.int .u64 V] 26)
          obtain ⟨R', d', w9, hrun, hown, hb⟩ := run_appN (m := 1) (HOW.out.after za) 1 (rd_one w6 V) rfl (by have := HLL.out; omega) (Nat.le_trans HZ.out.size za.size)
          have HOW5 := Lib.hid hown
          have HRUN := Lib.hid hrun
          have HZ6 := Lib.hid ((keep_call za HZ.out).trans hb)
          clear hrun hown hb za
          go_wp2_with (at_builtin; (with_reducible refine wpList_append_run HRUN.out ?_ ?_ ?_ ?_); exact ⟨_, _, rfl, rfl, rfl⟩; rfl; rfl)
          go_roundw
          case rel => exact ⟨j + 1, l ++ [V], R', d', by go_num, by simp, by omega, HP2, by simpa using HOW5, HZ6⟩
          case measure => simp [intOf]; omega
      · have SA := Lib.hid (seqAt_out HXX.out HY.out HT0.out hin)
        have hge : N ≤ (j : Int) := by omega
        cases hb : (Y == T0)
        · have hb2 : (Y != T0) = true := by rw [bne, hb]; rfl
          have SB := Lib.hid (SA.out.trans hb)
          clear SA hb
          go_wp2
          refine bodyPost_ret (by simp [results, Try.results13, go_sem]; try rfl) rfl ?_
          rw [ilst_bad HJJ.out (by rw [HL.out]; exact SB.out)]
          exact ⟨none, 0, rfl, Nat.le_refl _, fun h => by simp at h, Z.out.trans (HZ.out.mono Z.out.size)⟩
        · have hb2 : (Y != T0) = false := by rw [bne, hb]; rfl
          have SB := Lib.hid (SA.out.trans hb)
          clear SA hb
          have HP2 := Lib.hid (HP.out.out_ SB.out hin)
          go_wp2
          go_roundw
          case rel => exact ⟨j + 1, l, R, d, by go_num, rfl, by omega, HP2, HOW, HZ⟩
          case measure => simp [intOf]; omega
    · have hjT : j = J.toNat := by omega
      have el : ilst W D J S m = some l := Pl.done (by rw [HL.out, ← hjT]; exact HP.out) (by rw [HL.out]; exact HN0.out) (by rw [HL.out]; exact HN1.out)
      have EL := Lib.hid el
      clear el hjT
      go_wp2
      refine bodyPost_ret (by simp [results, Try.results13, go_sem]; try rfl) rfl ?_
      rw [EL.out]
      exact ⟨R, d, rfl, HOW.out.cap, HOW.out.rd, Z.out.trans (HZ.out.mono Z.out.size)⟩
theorem rdlist_any (W D J S : Int) (A : Option Addr) (k c : Nat) (m : List Int) (w : World) (h : Rd w A m) (hn : m.length = k) (hu : UM m) : Calls Try.prog 13 #[cf W D J S, .slice A k c] w (RetL w (ilst W D J S m)) := by
  by_cases h0 : ilen W D J S m < 0
  · rw [ilst_neg (by omega)]
    exact rdl_neg W D J S A k c m _ w h hn hu rfl h0
  · by_cases h1 : J < ilen W D J S m
    · rw [ilst_neg (by omega)]
      exact rdl_many W D J S A k c m _ w h hn hu rfl h0 h1
    · have hk : okm W D J S m = true := by
        cases e : okm W D J S m
        · unfold ilen at h0; rw [e] at h0; simp at h0
        · rfl
      exact rdl_in W D J S A k c m _ w h hn hu rfl hk (by omega) (by omega)
theorem rdlist_L {W D J S : Int} {A : Option Addr} {n c : Nat} {m : List Int} {w : World} (h : Rd w A m) (hn : m.length = n) (hu : UM m) {o : Option (List Int)} {L : List Int} {k : Nat} {B : Bool} (ho : ilst W D J S m = o) (hL : o.getD [] = L) (hk : L.length = k) (hB : o.isSome = B) :
    Calls Try.prog 13 #[cf W D J S, .slice A n c] w fun e w' => ∃ A' c', e = .returned (.tuple #[.slice A' k c', .bool B]) ∧ k ≤ c' ∧ Rd w' A' L ∧ Below w.heap.size w w' := by
  subst ho hL hk hB
  refine (rdlist_any W D J S A n c m w h hn hu).mono ?_
  rintro _ w' ⟨A', c', rfl, h1, h2, h3⟩
  exact ⟨A', c', rfl, h1, h2, h3⟩
end Go.Proofs.Ytelelhjgejnpcaa
