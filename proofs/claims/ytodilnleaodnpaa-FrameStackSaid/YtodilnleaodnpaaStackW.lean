/- The walk of FrameStack. -/
import Derived.Test.YtodilnleaodnpaaEndsW
namespace Go.Proofs.Ytodilnleaodnpaa
open Go.RowKit Go.Deep
theorem stack_big (A : Option Addr) (n c : Nat) (r v : Int) (w : World) (hn : 60 < n) : Tells 4 #[.slice A n c, .int .i64 r, .int .u64 v] w (.bool true) := by
  have hd : decide ((60 : Int) < (n : Int)) = true := decide_eq_true (by omega)
  go_enter Try.func4, Try.ntmps4
  go_wp2_with fail
  refine (awake_any _).mono ?_
  rintro _ w1 ⟨rfl, z⟩
  have Z := Lib.hid z
  clear z
  go_wp2
  go_ret
  exact ⟨rfl, Z.out⟩
theorem on_push_full {l : List Int} {r u : Int} (h : r ≤ (l.length : Int)) : on l r (bg 0 0 u) = (l, ⟨0, 0, 0, u, 0, 0, 2⟩) := by
  simp only [on, bg, onPut, ed]
  rw [if_neg (by decide), if_pos (by decide), if_pos (by omega)]
theorem on_enq {l : List Int} {r u : Int} (h : (l.length : Int) < r) : on l r (bg 3 0 u) = (l ++ [u], ⟨3, 0, 0, u, 0, 0, 1⟩) := by
  simp only [on, bg, onPut, ed]
  rw [if_neg (by decide), if_pos (by decide), if_neg (by omega)]
theorem on_deq {l : List Int} {r u : Int} : on (u :: l) r (bg 4 0 0) = (l, ⟨4, 0, 0, u, 0, 0, 1⟩) := by
  simp [on, bg, onFirst, ed]
set_option maxHeartbeats 4000000 in
theorem stack_full (A : Option Addr) (n c : Nat) (l : List Int) (r v : Int) (w : World) (hA : Rd w A l) (hn : l.length = n) (hc : n ≤ c) (hm : n ≤ 60) (hr : r ≤ (n : Int)) : Tells 4 #[.slice A n c, .int .i64 r, .int .u64 v] w (.bool true) := by
  have hd : decide ((60 : Int) < (n : Int)) = false := decide_eq_false (by omega)
  have hd2 : decide ((n : Int) ≥ r) = true := decide_eq_true hr
  have R := Lib.hid hA
  have HN := Lib.hid hn
  have E2 := Lib.hid (on_push_full (l := l) (r := r) (u := v) (by omega))
  clear hA hn
  go_enter Try.func4, Try.ntmps4
  go_wp2_with fail
  refine (awake_any _).mono ?_
  rintro _ w1 ⟨rfl, z⟩
  have Z := Lib.hid z
  replace R := Lib.hid (R.out.below z)
  clear z
  go_wp2_with fail
  refine (begin_any 0 0 v _).mono ?_
  rintro _ w2 ⟨rfl, z⟩
  replace Z := Lib.hid (Z.out.trans (z.mono Z.out.size))
  replace R := Lib.hid (R.out.below z)
  clear z
  go_wp2_with fail
  refine (once_at _ _ E2.out R.out HN.out hc (by omega)).mono ?_
  rintro _ w3 ⟨A3, c3, rfl, hc3, n3, z⟩
  replace Z := Lib.hid (Z.out.trans (z.mono Z.out.size))
  rw [HN.out]
  clear z n3 hc3
  go_wp2
  go_ret
  exact ⟨rfl, Z.out.trans ((bel_alloc _ _).mono Z.out.size)⟩
set_option maxHeartbeats 8000000 in
theorem stack_walk (A : Option Addr) (n c : Nat) (l : List Int) (r v : Int) (w : World) (hA : Rd w A l) (hn : l.length = n) (hc : n ≤ c) (hm : n ≤ 60) (hr : (n : Int) < r) : Tells 4 #[.slice A n c, .int .i64 r, .int .u64 v] w (.bool true) := by
  have hd : decide ((60 : Int) < (n : Int)) = false := decide_eq_false (by omega)
  have hd2 : decide ((n : Int) ≥ r) = false := decide_eq_false (by omega)
  have L := Lib.hid hA
  have HA := Lib.hid hA
  have HN := Lib.hid hn
  have E1 := Lib.hid (on_push (l := l) (r := r) (u := v) (by omega))
  have E2 := Lib.hid (on_pop (l := l) (r := r) (u := v))
  have E3 := Lib.hid (on_enq (l := l) (r := r) (u := v) (by omega))
  have HL := Lib.hid (show (l ++ [v]).length = n + 1 by simp [hn])
  clear hA hn
  go_enter Try.func4, Try.ntmps4
  go_wp2_with fail
  refine (awake_any _).mono ?_
  rintro _ w1 ⟨rfl, z⟩
  have Z := Lib.hid z
  replace L := Lib.hid (L.out.below z)
  clear z
  go_wp2_with fail
  refine (begin_any 0 0 v _).mono ?_
  rintro _ w2 ⟨rfl, z⟩
  replace Z := Lib.hid (Z.out.trans (z.mono Z.out.size))
  replace L := Lib.hid (L.out.below z)
  clear z
  go_wp2_with fail
  refine (once_at _ _ E1.out L.out HN.out hc (by omega)).mono ?_
  rintro _ w3 ⟨A3, c3, rfl, hc3, n3, z⟩
  replace Z := Lib.hid (Z.out.trans (z.mono Z.out.size))
  replace L := Lib.hid (L.out.below z)
  have R3 := Lib.hid n3.rd
  rw [HL.out] at hc3
  rw [HL.out]
  clear z n3
  go_wp2_with fail
  refine (begin_any 1 0 0 _).mono ?_
  rintro _ w4 ⟨rfl, z⟩
  have BF := Lib.hid ((Bf.new w3 ⟨0, 0, 0, v, 0, 0, 1⟩).after z)
  replace z := keep_call z (bel_alloc w3 _)
  replace Z := Lib.hid (Z.out.trans (z.mono Z.out.size))
  replace L := Lib.hid (L.out.below z)
  replace R3 := Lib.hid (R3.out.below z)
  clear z
  go_wp2_with fail
  refine (once_at _ _ E2.out R3.out HL.out hc3 (by omega)).mono ?_
  rintro _ w5 ⟨A5, c5, rfl, hc5, n5, z⟩
  replace Z := Lib.hid (Z.out.trans (z.mono Z.out.size))
  replace L := Lib.hid (L.out.below z)
  replace BF := Lib.hid (BF.out.after z)
  have R5 := Lib.hid n5.rd
  rw [HN.out]
  clear z n5 hc5 R3
  go_wp2_with fail
  refine (nums_eq (R5.out.alloc _) (L.out.alloc _) HN.out (by omega)).mono ?_
  rintro _ w6 ⟨rfl, q6, hq⟩
  have z := below_of_drewN hq
  clear hq
  have BG := Lib.hid ((Bf.new w5 ⟨1, 0, 0, v, 0, 0, 1⟩).after z)
  replace z := keep_call z (bel_alloc w5 _)
  replace Z := Lib.hid (Z.out.trans (z.mono Z.out.size))
  replace L := Lib.hid (L.out.below z)
  replace BF := Lib.hid (BF.out.after z)
  clear z R5
  go_wp2_with fail
  refine (begin_any 3 0 v _).mono ?_
  rintro _ w7 ⟨rfl, z⟩
  replace Z := Lib.hid (Z.out.trans (z.mono Z.out.size))
  replace L := Lib.hid (L.out.below z)
  replace BF := Lib.hid (BF.out.after z)
  replace BG := Lib.hid (BG.out.after z)
  clear z
  go_wp2_with fail
  refine (once_at _ _ E3.out L.out HN.out hc (by omega)).mono ?_
  rintro _ w8 ⟨A8, c8, rfl, hc8, n8, z⟩
  replace Z := Lib.hid (Z.out.trans (z.mono Z.out.size))
  replace BF := Lib.hid (BF.out.after z)
  replace BG := Lib.hid (BG.out.after z)
  have R := Lib.hid n8.rd
  rw [HL.out] at hc8
  rw [HL.out]
  clear z n8 L
  have BH := Lib.hid (Bf.new w8 ⟨3, 0, 0, v, 0, 0, 1⟩)
  have z := bel_alloc w8 (.cells #[.int .i64 3, .int .i64 0, .int .i64 0, .int .u64 v, .int .u64 0, .int .u64 0, .int .i64 1] 25)
  replace Z := Lib.hid (Z.out.trans (z.mono Z.out.size))
  replace BF := Lib.hid (BF.out.after z)
  replace BG := Lib.hid (BG.out.after z)
  replace R := Lib.hid (R.out.below z)
  clear z
  go_wp2
  generalize w8.alloc (.cells #[.int .i64 3, .int .i64 0, .int .i64 0, .int .u64 v, .int .u64 0, .int .u64 0, .int .i64 1] 25) = w9 at *
  go_loopw [13, 15] (fun a i wr => ∃ (j k d : Nat) (Q : Option Addr), i = .int .i64 j ∧ a = .slice Q k d ∧ j + k = n + 1 ∧ 1 ≤ k ∧ k ≤ d ∧ Hid (Rd wr Q (l.drop j ++ [v])) ∧ Hid (Below w.heap.size w wr) ∧ Hid (Bf wr w3.heap.size ⟨0, 0, 0, v, 0, 0, 1⟩) ∧ Hid (Bf wr w5.heap.size ⟨1, 0, 0, v, 0, 0, 1⟩) ∧ Hid (Bf wr w8.heap.size ⟨3, 0, 0, v, 0, 0, 1⟩)) (fun _ i _ => n - (intOf i).toNat)
  case atStart => exact ⟨0, n + 1, c8, A8, rfl, rfl, by omega, by omega, hc8, R, Z, BF, BG, BH⟩
  case round =>
    obtain ⟨j, k, d, Q, rfl, rfl, hjk, hk, hkd, R, Z, BF, BG, BH⟩ := hrel
    by_cases hlt : j < n
    · have h1 : j < l.length := by rw [HN.out]; exact hlt
      obtain ⟨ad, rfl, al, ac⟩ := HA.out (by omega)
      obtain ⟨u, hu⟩ : ∃ u, l[j]? = some u := ⟨_, List.getElem?_eq_getElem h1⟩
      have C1 := Lib.hid (ac j u hu)
      have AL : (ad.add j).block < w.heap.size := by rw [block_add]; exact al
      have hjl : (j : Int) < (n : Int) := by omega
      have E := Lib.hid (show l.drop j ++ [v] = u :: (l.drop (j + 1) ++ [v]) by rw [List.drop_eq_getElem_cons h1, (List.getElem?_eq_some_iff.1 hu).2]; rfl)
      have E4 := Lib.hid (on_deq (l := l.drop (j + 1) ++ [v]) (r := r) (u := u))
      have HK := Lib.hid (show (u :: (l.drop (j + 1) ++ [v])).length = k by simp [HN.out]; omega)
      have HK2 := Lib.hid (show (l.drop (j + 1) ++ [v]).length = k - 1 by simp [HN.out]; omega)
      replace R := Lib.hid (show Rd wr Q (u :: (l.drop (j + 1) ++ [v])) by rw [← E.out]; exact R.out)
      clear ac al h1 hu E
      go_wp2_with fail
      refine (begin_any 4 0 0 _).mono ?_
      rintro _ wa ⟨rfl, z⟩
      replace Z := Lib.hid (Z.out.trans (z.mono Z.out.size))
      replace R := Lib.hid (R.out.below z)
      replace BF := Lib.hid (BF.out.after z)
      replace BG := Lib.hid (BG.out.after z)
      replace BH := Lib.hid (BH.out.after z)
      clear z
      go_wp2_with fail
      refine (once_at _ _ E4.out R.out HK.out hkd (by omega)).mono ?_
      rintro _ wb ⟨Ab, cb, rfl, hcb, nb, z⟩
      replace Z := Lib.hid (Z.out.trans (z.mono Z.out.size))
      replace BF := Lib.hid (BF.out.after z)
      replace BG := Lib.hid (BG.out.after z)
      replace BH := Lib.hid (BH.out.after z)
      have Rb := Lib.hid nb.rd
      rw [HK2.out] at hcb
      rw [HK2.out]
      have HCB := Lib.hid hcb
      clear z nb hcb
      have z := bel_alloc wb (.cells #[.int .i64 4, .int .i64 0, .int .i64 0, .int .u64 u, .int .u64 0, .int .u64 0, .int .i64 1] 25)
      have Z3 := Lib.hid (Z.out.trans (z.mono Z.out.size))
      replace BF := Lib.hid (BF.out.after z)
      replace BG := Lib.hid (BG.out.after z)
      replace BH := Lib.hid (BH.out.after z)
      clear z
      have c1 := (Z3.out.cell AL).trans C1.out
      have bl : (ad.add j).block < wb.heap.size := Nat.lt_of_lt_of_le AL Z.out.size
      go_wp2_with fail
      go_quiet (fail)
      go_wp2
      go_roundw
      case rel => exact ⟨j + 1, k - 1, cb, Ab, by go_num, rfl, by omega, by omega, HCB.out, Lib.hid (Rb.out.alloc _), Lib.hid (Z3.out.trans ((below_drewN _ _).mono Z3.out.size)), BF, BG, BH⟩
      case measure => simp [intOf]; omega
    · obtain rfl : j = n := by omega
      obtain rfl : k = 1 := by omega
      have E4 := Lib.hid (on_deq (l := []) (r := r) (u := v))
      replace R := Lib.hid (show Rd wr Q [v] by have := R.out; rwa [List.drop_eq_nil_of_le (by rw [HN.out]; exact Nat.le_refl _)] at this)
      go_wp2_with fail
      refine (begin_any 4 0 0 _).mono ?_
      rintro _ wa ⟨rfl, z⟩
      replace Z := Lib.hid (Z.out.trans (z.mono Z.out.size))
      replace R := Lib.hid (R.out.below z)
      replace BF := Lib.hid (BF.out.after z)
      replace BG := Lib.hid (BG.out.after z)
      replace BH := Lib.hid (BH.out.after z)
      clear z
      go_wp2_with fail
      refine (once_at _ _ E4.out R.out rfl hkd (by simp)).mono ?_
      rintro _ wb ⟨Ab, cb, rfl, hcb, nb, z⟩
      replace Z := Lib.hid (Z.out.trans (z.mono Z.out.size))
      replace BF := Lib.hid (BF.out.after z)
      replace BG := Lib.hid (BG.out.after z)
      replace BH := Lib.hid (BH.out.after z)
      clear z nb hcb
      have z := bel_alloc wb (.cells #[.int .i64 4, .int .i64 0, .int .i64 0, .int .u64 v, .int .u64 0, .int .u64 0, .int .i64 1] 25)
      have Z3 := Lib.hid (Z.out.trans (z.mono Z.out.size))
      obtain ⟨a0, a1, a2, a3, a4, a5, a6⟩ := (BF.out.after z).cells
      have la := BF.out.lt
      obtain ⟨b0, b1, b2, b3, b4, b5, b6⟩ := (BG.out.after z).cells
      have lb := BG.out.lt
      obtain ⟨d0, d1, d2, d3, d4, d5, d6⟩ := (BH.out.after z).cells
      have ld := BH.out.lt
      simp only at a0 a1 a2 a3 a4 a5 a6 b0 b1 b2 b3 b4 b5 b6 d0 d1 d2 d3 d4 d5 d6
      clear z
      go_wp2
      go_ret
      exact ⟨rfl, Z3.out⟩
theorem frameStack_walk (A : Option Addr) (n c : Nat) (l : List Int) (r v : Int) (w : World) (hA : Rd w A l) (hn : l.length = n) (hc : n ≤ c) : Tells 4 #[.slice A n c, .int .i64 r, .int .u64 v] w (.bool true) := by
  by_cases hm : n ≤ 60
  · by_cases hr : (n : Int) < r
    · exact stack_walk A n c l r v w hA hn hc hm hr
    · exact stack_full A n c l r v w hA hn hc hm (by omega)
  · exact stack_big A n c r v w (by omega)
end Go.Proofs.Ytodilnleaodnpaa
