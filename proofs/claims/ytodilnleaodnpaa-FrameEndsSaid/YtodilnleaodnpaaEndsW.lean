/- The walk of FrameEnds. -/
import Derived.Test.YtodilnleaodnpaaFrQ
namespace Go.Proofs.Ytodilnleaodnpaa
open Go.RowKit Go.Deep
theorem ends_big (A : Option Addr) (n c : Nat) (w : World) (hn : 60 < n) : Tells 8 #[.slice A n c] w (.bool true) := by
  have hd : decide ((60 : Int) < (n : Int)) = true := decide_eq_true (by omega)
  go_enter Try.func8, Try.ntmps8
  go_wp2_with fail
  refine (awake_any _).mono ?_
  rintro _ w1 ⟨rfl, z⟩
  have Z := Lib.hid z
  clear z
  go_wp2
  go_ret
  exact ⟨rfl, Z.out⟩
theorem on_push {l : List Int} {r u : Int} (h : (l.length : Int) < r) : on l r (bg 0 0 u) = (l ++ [u], ⟨0, 0, 0, u, 0, 0, 1⟩) := by
  simp only [on, bg, onPut, ed]
  rw [if_neg (by decide), if_pos (by decide), if_neg (by omega)]
theorem on_pop {l : List Int} {r u : Int} : on (l ++ [u]) r (bg 1 0 0) = (l, ⟨1, 0, 0, u, 0, 0, 1⟩) := by
  simp [on, bg, onLast, ed]
theorem take_snoc {l : List Int} {j : Nat} {u : Int} (h : l[j]? = some u) : l.take (j + 1) = l.take j ++ [u] := by
  rw [List.take_add_one, h]; rfl
set_option maxHeartbeats 4000000 in
theorem ends_walk (A : Option Addr) (n c : Nat) (l : List Int) (w : World) (hA : Rd w A l) (hn : l.length = n) (hm : n ≤ 60) : Tells 8 #[.slice A n c] w (.bool true) := by
  have hd : decide ((60 : Int) < (n : Int)) = false := decide_eq_false (by omega)
  have HA := Lib.hid hA
  have HN := Lib.hid hn
  clear hA hn
  go_enter Try.func8, Try.ntmps8
  go_wp2_with fail
  refine (awake_any _).mono ?_
  rintro _ w1 ⟨rfl, z⟩
  have Z := Lib.hid z
  clear z
  go_wp2
  go_loopw [4, 5] (fun a i wr => ∃ (j d : Nat) (Q : Option Addr), i = .int .i64 j ∧ a = .slice Q j d ∧ j ≤ n ∧ j ≤ d ∧ Hid (Rd wr Q (l.take j)) ∧ Hid (Below w.heap.size w wr)) (fun _ i _ => n - (intOf i).toNat)
  case atStart => exact ⟨0, 0, none, rfl, rfl, by omega, by omega, Lib.hid (Rd.nil _ _), Lib.hid Z.out⟩
  case round =>
    obtain ⟨j, d, Q, rfl, rfl, hj, hjd, R, Z⟩ := hrel
    by_cases hlt : j < n
    · have h1 : j < l.length := by rw [HN.out]; exact hlt
      obtain ⟨ad, rfl, al, ac⟩ := HA.out (by omega)
      obtain ⟨u, hu⟩ : ∃ u, l[j]? = some u := ⟨_, List.getElem?_eq_getElem h1⟩
      have c1 := (Z.out.cell (p := ad.add j) (by rw [block_add]; exact al)).trans (ac j u hu)
      have hjl : (j : Int) < (n : Int) := by omega
      have E := Lib.hid (take_snoc hu)
      have E2 := Lib.hid (on_push (l := l.take j) (r := n) (u := u) (by rw [List.length_take]; omega))
      clear ac al h1 hu
      go_wp2_with fail
      refine (begin_any 0 0 u _).mono ?_
      rintro _ w2 ⟨rfl, z⟩
      replace Z := Lib.hid (Z.out.trans (z.mono Z.out.size))
      replace R := Lib.hid (R.out.below z)
      clear z c1
      go_wp2_with fail
      refine (once_at _ _ E2.out R.out (by rw [List.length_take, HN.out]; omega) hjd (by omega)).mono ?_
      rintro _ w3 ⟨A3, c3, rfl, hc3, n3, z⟩
      replace Z := Lib.hid (Z.out.trans (z.mono Z.out.size))
      have R3 := Lib.hid n3.rd
      have HC3 := Lib.hid hc3
      have HL := Lib.hid (show (l.take j ++ [u]).length = j + 1 by simp [HN.out]; omega)
      rw [HL.out]
      clear z n3 hc3
      go_wp2
      go_roundw
      case rel => exact ⟨j + 1, c3, A3, by go_num, rfl, by omega, by have := HC3.out; rw [HL.out] at this; exact this, Lib.hid (by rw [E.out]; exact R3.out.alloc _), Lib.hid (Z.out.trans ((bel_alloc _ _).mono Z.out.size))⟩
      case measure => simp [intOf]; omega
    · obtain rfl : j = n := by omega
      have E := Lib.hid (show l.take j = l from List.take_of_length_le (by rw [HN.out]; exact Nat.le_refl _))
      have R2 := Lib.hid (show Rd wr Q l by rw [← E.out]; exact R.out)
      have L := Lib.hid (HA.out.below Z.out)
      go_wp2_with fail
      refine (nums_eq R2.out L.out HN.out (by omega)).mono ?_
      rintro _ w2 ⟨rfl, q2, hq⟩
      have z := below_of_drewN hq
      clear hq
      replace Z := Lib.hid (Z.out.trans (z.mono Z.out.size))
      replace R := Lib.hid (R.out.below z)
      clear z R2 L
      go_wp2
      go_loopw [4, 9] (fun a i wr => ∃ (k d : Nat) (e : Int) (Q : Option Addr), i = .int .i64 e ∧ e + 1 = k ∧ a = .slice Q k d ∧ k ≤ j ∧ k ≤ d ∧ Hid (Rd wr Q (l.take k)) ∧ Hid (Below w.heap.size w wr)) (fun _ i _ => (intOf i + 1).toNat)
      case atStart => exact ⟨j, d, (j : Int) - 1, Q, by go_num, by omega, rfl, by omega, by omega, R, Z⟩
      case round =>
        obtain ⟨k, d', e, Q', rfl, he, rfl, hk, hkd, R, Z⟩ := hrel
        rcases k with _ | k
        · obtain rfl : e = -1 := by omega
          go_wp2
          go_ret
          exact ⟨rfl, Z.out⟩
        · obtain rfl : e = (k : Int) := by omega
          have h1 : k < l.length := by rw [HN.out]; omega
          obtain ⟨ad, rfl, al, ac⟩ := HA.out (by omega)
          obtain ⟨u, hu⟩ : ∃ u, l[k]? = some u := ⟨_, List.getElem?_eq_getElem h1⟩
          have C1 := Lib.hid (ac k u hu)
          have AL : (ad.add k).block < w.heap.size := by rw [block_add]; exact al
          have E2 := Lib.hid (on_pop (l := l.take k) (r := j) (u := u))
          replace R := Lib.hid (show Rd wr Q' (l.take k ++ [u]) by rw [← take_snoc hu]; exact R.out)
          have HL := Lib.hid (show (l.take k).length = k by simp [HN.out]; omega)
          have hkj : (k : Int) < (j : Int) := by omega
          clear ac al h1 hu he E
          go_wp2_with fail
          refine (begin_any 1 0 0 _).mono ?_
          rintro _ w2 ⟨rfl, z⟩
          replace Z := Lib.hid (Z.out.trans (z.mono Z.out.size))
          replace R := Lib.hid (R.out.below z)
          clear z
          go_wp2_with fail
          refine (once_at _ _ E2.out R.out (by simp [HL.out]) hkd (by omega)).mono ?_
          rintro _ w3 ⟨A3, c3, rfl, hc3, n3, z⟩
          replace Z := Lib.hid (Z.out.trans (z.mono Z.out.size))
          have R3 := Lib.hid n3.rd
          have HC3 := Lib.hid hc3
          rw [HL.out]
          clear z n3 hc3
          have Z3 := Lib.hid (Z.out.trans ((bel_alloc w3 (.cells #[.int .i64 1, .int .i64 0, .int .i64 0, .int .u64 u, .int .u64 0, .int .u64 0, .int .i64 1] 25)).mono Z.out.size))
          have c1 := (Z3.out.cell AL).trans C1.out
          have bl : (ad.add k).block < w3.heap.size := Nat.lt_of_lt_of_le AL Z.out.size
          go_wp2_with fail
          go_quiet (fail)
          go_wp2
          go_roundw
          case rel => exact ⟨k, c3, (k : Int) - 1, A3, by go_num, by omega, rfl, by omega, by have := HC3.out; rw [HL.out] at this; exact this, Lib.hid (R3.out.alloc _), Lib.hid (Z3.out.trans ((below_drewN _ _).mono Z3.out.size))⟩
          case measure => simp [intOf]
theorem frameEnds_walk (A : Option Addr) (n c : Nat) (l : List Int) (w : World) (hA : Rd w A l) (hn : l.length = n) : Tells 8 #[.slice A n c] w (.bool true) := by
  by_cases hm : n ≤ 60
  · exact ends_walk A n c l w hA hn hm
  · exact ends_big A n c w (by omega)
end Go.Proofs.Ytodilnleaodnpaa
