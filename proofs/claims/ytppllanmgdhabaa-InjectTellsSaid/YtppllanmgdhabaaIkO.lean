/- Contract of goOn: a call's steps of one round. -/
import Derived.Test.YtppllanmgdhabaaIkB
import Derived.Test.YtppllanmgdhabaaIjX
import Derived.Test.YtppllanmgdhabaaIkH
namespace Go.Proofs.Ytppllanmgdhabaa
open Go.RowKit Go.Deep
theorem restI1_U {J : Int} : ∀ (n : Nat) {m : List Int} {f : Fr}, UM m → UF f → UM (restI1 J n m f).1 ∧ UF (restI1 J n m f).2
  | 0, _, _, hm, hf => ⟨hm, hf⟩
  | n + 1, m, f, hm, hf => by
    unfold restI1
    split
    · exact ⟨hm, hf⟩
    · have h := insS_U (W := 1) (D := 1) (J := J) (S := 0) hm hf
      exact restI1_U n h.1 h.2
theorem restI1_len (J : Int) : ∀ (n : Nat) (m : List Int) (f : Fr), (restI1 J n m f).1.length = m.length
  | 0, _, _ => rfl
  | n + 1, m, f => by
    unfold restI1
    split
    · rfl
    · rw [restI1_len J n, insS_len]
theorem restI1_step {J : Int} {n : Nat} {m : List Int} {f : Fr} (h1 : f.op ≠ -1) (h2 : f.res = 0) : restI1 J (n + 1) m f = restI1 J n (insS 1 1 J 0 m f).1 (insS 1 1 J 0 m f).2 := by
  show (if _ then _ else _) = _
  rw [if_neg (by omega)]
theorem goon_fin {w w0 w1 : World} {A A1 : Option Addr} {n c1 : Nat} {m m1 : List Int} {f1 : Fr} (hA : (A1 = A ∧ m1 = m) ∨ Rn w0.heap.size w1 A1 m1) (hl : w.heap.size + 1 + 1 < w0.heap.size) (hZ : Below w.heap.size w w1) :
    RetU w A m n m1 f1 (.returned (.tuple #[.slice A1 n c1, fv f1])) (pf w1 (w.heap.size + 1 + 1) f1).drew :=
  ⟨A1, c1, rfl, hA.imp id fun h => (((h.pf hl f1).drew).mono (by omega)), (below_pf hZ (by omega) f1).drew⟩
set_option maxRecDepth 100000 in
set_option maxHeartbeats 4000000 in
theorem goon_any (J : Int) (A : Option Addr) (n c : Nat) (m : List Int) (f : Fr) (w : World) (h : Rd w A m) (hn : m.length = n) (hs : n ≤ 500) (hu : UM m) (hf : UF f) :
    Calls Try.prog 46 #[cf 1 1 J 0, .slice A n c, fv f] w (RetU w A m n (restI1 J 20 m f).1 (restI1 J 20 m f).2) := by
  have HU := Lib.hid hu
  have HF := Lib.hid hf
  have HN := Lib.hid hn
  obtain ⟨BX, BF, B0, Z, hz⟩ := boxes3 w 1 1 J 0 f
  have H := Lib.hid (h.below Z)
  clear h hu hf hn
  go_enter Try.func46, Try.ntmps46
  go_upto_region 1 with fail
  change Code.wp _ _ _ _ (bx3 w 1 1 J 0 f)
  generalize bx3 w 1 1 J 0 f = w0 at BX BF B0 Z hz H ⊢
  have HBX := Lib.hid BX
  have HBF := Lib.hid BF
  have HB0 := Lib.hid B0
  have HZ := Lib.hid Z
  have hl1 : w.heap.size < w0.heap.size := by omega
  have hl2 : w.heap.size + 1 < w0.heap.size := by omega
  have hl3 : w.heap.size + 1 + 1 < w0.heap.size := by omega
  clear BX BF B0 Z hz
  go_wp2
  go_loopw [1, 8] (fun x y wr => ∃ (k : Nat) (A1 : Option Addr) (c1 : Nat) (m1 : List Int) (f1 : Fr), x = .slice A1 n c1 ∧ y = .int .i64 k ∧ k ≤ 20 ∧ Hid (restI1 J 20 m f = restI1 J (20 - k) m1 f1) ∧ Hid (m1.length = n) ∧ Hid (UM m1) ∧ Hid (UF f1) ∧ w0.heap.size ≤ wr.heap.size ∧ Hid ((A1 = A ∧ m1 = m) ∨ Rn w0.heap.size wr A1 m1) ∧ Hid (Rd wr A1 m1) ∧ Hid (Bx wr w.heap.size 1 1 J 0) ∧ Hid (Bf wr (w.heap.size + 1) f1) ∧ Hid (Bf wr (w.heap.size + 1 + 1) f0) ∧ Hid (Below w.heap.size w wr)) (fun _ y _ => 20 - (intOf y).toNat)
  case atStart => exact ⟨0, A, c, m, f, rfl, rfl, by omega, Lib.hid rfl, HN, HU, HF, Nat.le_refl _, Lib.hid (.inl ⟨rfl, rfl⟩), H, HBX, HBF, HB0, HZ⟩
  case round =>
    obtain ⟨k, A1, c1, m1, f1, rfl, rfl, hk, hR, hL, hU, hF, hW, hA, hD, hX, hB, hQ, hZ⟩ := hrel
    obtain ⟨o, p, q, v, x, y, s⟩ := f1
    obtain ⟨a0, a1, a2, a3, a4, a5, a6⟩ := hB.out.cells
    have la := hB.out.lt
    simp only at a0 a1 a2 a3 a4 a5 a6
    by_cases hlt : k < 20
    · have d1 : decide ((k : Int) < 20) = true := decide_eq_true (by omega)
      by_cases ho : o = -1
      · have e1 : (o != -1) = false := by simp [ho]
        have hE := Lib.hid (hR.out.trans (restI1_over J _ _ _ (.inl ho)))
        clear hR ho
        obtain ⟨r0, r1, r2, r3, r4, r5, r6⟩ := hQ.out.cells
        have lr := hQ.out.lt
        have fr := hQ.out.free
        go_wp2
        go_region
        all_goals
          go_wp2
          change bodyPost _ _ _ _ _ (pf wr (w.heap.size + 1 + 1) ⟨o, p, q, v, x, y, s⟩).drew
          refine bodyPost_ret (results_fr Try.results46 _ rfl ((hQ.out.pf _).drew)) rfl ?_
          rw [hE.out]
          exact goon_fin hA.out hl3 hZ.out
      · have e1 : (o != -1) = true := by simp [ho]
        by_cases hs0 : s = 0
        · have e2 : (s != 0) = false := by simp [hs0]
          have hS := Lib.hid (show restI1 J 20 m f = restI1 J (20 - (k + 1)) (insS 1 1 J 0 m1 ⟨o, p, q, v, x, y, s⟩).1 (insS 1 1 J 0 m1 ⟨o, p, q, v, x, y, s⟩).2 by
            rw [hR.out, show 20 - k = (20 - (k + 1)) + 1 by omega]
            exact restI1_step ho hs0)
          obtain ⟨m2, g, hd⟩ : ∃ m2 g, insS 1 1 J 0 m1 ⟨o, p, q, v, x, y, s⟩ = (m2, g) := ⟨_, _, rfl⟩
          have HD := Lib.hid hd
          have hL2 := Lib.hid (show m2.length = n by have := insS_len 1 1 J 0 m1 ⟨o, p, q, v, x, y, s⟩; rw [hd, hL.out] at this; exact this)
          have hUU := insS_U (W := 1) (D := 1) (J := J) (S := 0) hU.out hF.out
          rw [hd] at hUU
          have hU2 := Lib.hid hUU.1
          have hF2 := Lib.hid hUU.2
          rw [hd] at hS
          clear hd hUU hR ho hs0
          go_wp2_with fail
          refine (Tells.of (over_any ⟨o, p, q, v, x, y, s⟩ _) (v' := .bool false) (by rw [e2])).mono ?_
          rintro _ w2 ⟨rfl, z2⟩
          have hD2 := Lib.hid (hD.out.below (z2))
          have hX2 := Lib.hid (hX.out.below z2)
          have hB2 := Lib.hid (hB.out.below z2 la)
          have hQ2 := Lib.hid (hQ.out.below z2 hQ.out.lt)
          have hZ2 := Lib.hid (hZ.out.trans (z2.mono hZ.out.size))
          have hW2 : w0.heap.size ≤ w2.heap.size := Nat.le_trans hW z2.size
          clear a0 a1 a2 a3 a4 a5 a6 la z2 hA hD hX hB hQ hZ
          obtain ⟨a0, a1, a2, a3, a4, a5, a6⟩ := hB2.out.cells
          have la := hB2.out.lt
          obtain ⟨_, b0, b1, b2, b3⟩ := hX2.out
          go_wp2_with fail
          refine (istep_n hD2.out hL.out hs hU.out hF.out HD.out).mono ?_
          rintro _ w3 ⟨A3, c3, rfl, hr3, z3⟩
          have hA3 := Lib.hid (Or.inr (a := A3 = A ∧ m2 = m) (((hr3.mono hW2).pf hl2 g)))
          have hD3 := Lib.hid ((hr3.pf la g).rd)
          have hB3 := hB2.out.below z3 la
          have hX3 := Lib.hid (show Bx (pf w3 (w.heap.size + 1) g) w.heap.size 1 1 J 0 from (hX2.out.below z3).stay (pf_other' (j := w.heap.size) _ _ _ (by omega)) (below_pf (Below.refl 0 w3) (Nat.zero_le _) g).size)
          have hQ3 := Lib.hid (show Bf (pf w3 (w.heap.size + 1) g) (w.heap.size + 1 + 1) f0 from (pf_other' _ _ _ (by omega)).trans (hQ2.out.below z3 hQ2.out.lt))
          have hBB := Lib.hid (hB3.pf g)
          have hZ3 := Lib.hid (below_pf (hZ2.out.trans (z3.mono hZ2.out.size)) (show w.heap.size ≤ w.heap.size + 1 by omega) g)
          have hW3 : w0.heap.size ≤ (pf w3 (w.heap.size + 1) g).heap.size := Nat.le_trans (Nat.le_trans hW2 z3.size) (below_pf (Below.refl 0 w3) (Nat.zero_le _) g).size
          clear a0 a1 a2 a3 a4 a5 a6 la b0 b1 b2 b3 hr3 hD2 hX2 hB2 hQ2 hZ2
          obtain ⟨a0, a1, a2, a3, a4, a5, a6⟩ := hB3.cells
          have la := hB3.lt
          have fb := hB3.free
          clear z3
          go_wp2
          go_roundw
          case rel =>
            change ∃ (k : Nat) (A1 : Option Addr) (c1 : Nat) (m1 : List Int) (f1 : Fr), _ ∧ _ ∧ k ≤ 20 ∧ Hid (restI1 J 20 m f = restI1 J (20 - k) m1 f1) ∧ Hid (m1.length = n) ∧ Hid (UM m1) ∧ Hid (UF f1) ∧ w0.heap.size ≤ (pf w3 (w.heap.size + 1) g).heap.size ∧ Hid ((A1 = A ∧ m1 = m) ∨ Rn w0.heap.size (pf w3 (w.heap.size + 1) g) A1 m1) ∧ Hid (Rd (pf w3 (w.heap.size + 1) g) A1 m1) ∧ Hid (Bx (pf w3 (w.heap.size + 1) g) w.heap.size 1 1 J 0) ∧ Hid (Bf (pf w3 (w.heap.size + 1) g) (w.heap.size + 1) f1) ∧ Hid (Bf (pf w3 (w.heap.size + 1) g) (w.heap.size + 1 + 1) f0) ∧ Hid (Below w.heap.size w (pf w3 (w.heap.size + 1) g))
            exact ⟨k + 1, A3, c3, m2, g, rfl, by go_num, by omega, hS, hL2, hU2, hF2, hW3, hA3, hD3, hX3, hBB, hQ3, hZ3⟩
          case measure => simp [intOf]; omega
        · have e2 : (s != 0) = true := by simp [hs0]
          have hE := Lib.hid (hR.out.trans (restI1_over J _ _ _ (.inr hs0)))
          clear hR ho hs0
          go_wp2_with fail
          refine (Tells.of (over_any ⟨o, p, q, v, x, y, s⟩ _) (v' := .bool true) (by rw [e2])).mono ?_
          rintro _ w2 ⟨rfl, z2⟩
          have hA2 := Lib.hid (hA.out.imp id fun h => h.below z2)
          have hZ2 := Lib.hid (hZ.out.trans (z2.mono hZ.out.size))
          have hB2 := hB.out.below z2 la
          have hQ2 := hQ.out.below z2 hQ.out.lt
          clear a0 a1 a2 a3 a4 a5 a6 la
          obtain ⟨a0, a1, a2, a3, a4, a5, a6⟩ := hB2.cells
          have la := hB2.lt
          obtain ⟨r0, r1, r2, r3, r4, r5, r6⟩ := hQ2.cells
          have lr := hQ2.lt
          have fr := hQ2.free
          clear z2
          go_wp2
          go_region
          all_goals
            go_wp2
            change bodyPost _ _ _ _ _ (pf w2 (w.heap.size + 1 + 1) ⟨o, p, q, v, x, y, s⟩).drew
            refine bodyPost_ret (results_fr Try.results46 _ rfl ((hQ2.pf _).drew)) rfl ?_
            rw [hE.out]
            exact goon_fin hA2.out hl3 hZ2.out
    · have d1 : decide ((k : Int) < 20) = false := decide_eq_false (by omega)
      have hE := Lib.hid (show restI1 J 20 m f = (m1, ⟨o, p, q, v, x, y, s⟩) by
        rw [hR.out, show 20 - k = 0 by omega]; rfl)
      clear hR
      obtain ⟨r0, r1, r2, r3, r4, r5, r6⟩ := hQ.out.cells
      have lr := hQ.out.lt
      have fr := hQ.out.free
      go_wp2
      go_region
      all_goals
        go_wp2
        change bodyPost _ _ _ _ _ (pf wr (w.heap.size + 1 + 1) ⟨o, p, q, v, x, y, s⟩).drew
        refine bodyPost_ret (results_fr Try.results46 _ rfl ((hQ.out.pf _).drew)) rfl ?_
        rw [hE.out]
        exact goon_fin hA.out hl3 hZ.out
end Go.Proofs.Ytppllanmgdhabaa
