/- EventFirst. -/
import Derived.Test.YtgemaeibmgkneaaEvS
import Derived.Test.YtgemaeibmgkneaaDeD
namespace Go.Proofs.Ytgemaeibmgkneaa
open Go.RowKit Go.Deep Go.Shelf
set_option maxRecDepth 100000 in
theorem Ri.take {w : World} {A : Option Addr} {l : List Int} (h : Ri w A l) (k : Nat) : Ri w A (l.take k) := fun hp => by
  have hl : 0 < l.length := by simp at hp; omega
  obtain ⟨ad, e, h1, h2⟩ := h hl
  refine ⟨ad, e, h1, fun j u hu => h2 j u ?_⟩
  rw [List.getElem?_take] at hu
  split at hu
  · exact hu
  · cases hu
set_option maxRecDepth 100000 in
theorem Pr.take {n : Nat} {w : World} {A : Option Addr} {l : List Fr} (h : Pr n w A l) (k : Nat) : Pr n w A (l.take k) := fun hp => by
  have hl : 0 < l.length := by simp at hp; omega
  obtain ⟨b, off, e, h1, h2⟩ := h hl
  refine ⟨b, off, e, h1, fun j u hu => h2 j u ?_⟩
  rw [List.getElem?_take] at hu
  split at hu
  · exact hu
  · cases hu
set_option maxRecDepth 100000 in
theorem plE_first (calls : List (List Int)) (who : List Int) (k : Nat) : ∃ o, (plE calls who).2.2 = (plE calls (who.take k)).2.2 ++ o ∧ (plE calls who).2.1.length = (plE calls (who.take k)).2.1.length := by
  unfold plE
  by_cases hc : may calls.length 1 1 0 = true
  · rw [if_pos hc, if_pos hc]
    obtain ⟨⟨r, h1⟩, h2⟩ := first_E calls who k
    exact ⟨r, h1, h2⟩
  · rw [if_neg hc, if_neg hc]
    exact ⟨[], rfl, rfl⟩
set_option maxHeartbeats 4000000 in
set_option maxRecDepth 100000 in
theorem first_any (A B : Option Addr) (nc cc nw cw : Nat) (x : Int) (calls : List (List Int)) (who : List Int) (w : World) (hA : Rl w A calls) (hB : Ri w B who) (hnc : calls.length = nc) (hnw : who.length = nw) (hcw : nw ≤ cw) :
    Tells 6 #[.slice A nc cc, .slice B nw cw, .int .i64 x] w (.bool true) := by
  have HA := Lib.hid hA
  have HB := Lib.hid hB
  have HNC := Lib.hid hnc
  have HNW := Lib.hid hnw
  clear hA hB hnc hnw
  go_enter Try.func6, Try.ntmps6
  go_wp2_with fail
  refine (awake_any w).mono ?_
  rintro _ w1 ⟨rfl, z1⟩
  have HA1 := Lib.hid (HA.out.below z1)
  have HB1 := Lib.hid (HB.out.below z1)
  have Z1 := Lib.hid z1
  clear z1 HA HB
  go_wp2_with fail
  refine (few_any A nc cc calls w1 HA1.out HNC.out).mono ?_
  rintro _ w2 ⟨rfl, z2⟩
  have HA2 := Lib.hid (HA1.out.below z2)
  have HB2 := Lib.hid (HB1.out.below z2)
  have Z2 := Lib.hid (Z1.out.trans (z2.mono Z1.out.size))
  clear z2 HA1 HB1 Z1
  cases hf : fewE calls
  · clear hf
    go_wp2
    go_ret
    exact ⟨rfl, Z2.out⟩
  obtain ⟨h10, h30⟩ := fewE_of hf
  rw [HNC.out] at h10
  have H30 := Lib.hid (show ∀ l ∈ calls, l.length ≤ 500 from fun l hl => Nat.le_trans (h30 l hl) (by omega))
  have H31 := Lib.hid h30
  clear hf h30
  by_cases hn : 500 < nw
  · have d1 : decide ((nw : Int) > 500) = true := decide_eq_true (by omega)
    clear hn
    go_wp2
    go_ret
    exact ⟨rfl, Z2.out⟩
  have d1 : decide ((nw : Int) > 500) = false := decide_eq_false (by omega)
  by_cases hx0 : x < 0
  · have dhx0 : decide (x < 0) = true := decide_eq_true (by omega)
    clear hx0
    go_wp2
    go_ret
    exact ⟨rfl, Z2.out⟩
  have dhx0 : decide (x < 0) = false := decide_eq_false (by omega)
  by_cases hxn : (nw : Int) < x
  · have dhxn : decide (x > (nw : Int)) = true := decide_eq_true (by omega)
    clear hxn
    go_wp2
    go_ret
    exact ⟨rfl, Z2.out⟩
  have dhxn : decide (x > (nw : Int)) = false := decide_eq_false (by omega)
  obtain ⟨k, rfl⟩ := Int.eq_ofNat_of_zero_le (show 0 ≤ x by omega)
  have hk : k ≤ nw := by omega
  have hkc : k ≤ cw := by omega
  have s1 : (0 : Int) ≤ (k : Int) := by omega
  have s2 : (k : Int) ≤ (cw : Int) := by omega
  go_wp2_with fail
  have HNK := Lib.hid (show (who.take k).length = k by rw [List.length_take, HNW.out]; omega)
  obtain ⟨⟨m, a, over⟩, hpl⟩ : ∃ s, plE calls (who.take k) = s := ⟨_, rfl⟩
  refine (play_n HA2.out (HB2.out.take k) HNC.out HNK.out (by omega) H30.out hpl).mono ?_
  rintro _ w3 ⟨Am, cm, Ao, co, Aa, ca, rfl, rm, ro, hco, ra, hca, z3⟩
  have HA3 := Lib.hid (HA2.out.below z3)
  have HB3 := Lib.hid (HB2.out.below z3)
  have Z3 := Lib.hid (Z2.out.trans (z3.mono Z2.out.size))
  have RO := Lib.hid ro
  have HPL := Lib.hid hpl
  clear rm ro ra hca z3 hpl HA2 HB2 Z2
  go_wp2_with fail
  obtain ⟨⟨m2, a2, over2⟩, hpl2⟩ : ∃ s, plE calls who = s := ⟨_, rfl⟩
  refine (play_n HA3.out HB3.out HNC.out HNW.out (by omega) H30.out hpl2).mono ?_
  rintro _ w4 ⟨Bm, bm, Bo, bo, Ba, ba, rfl, _, ro2, hco2, _, _, z4⟩
  have Z4 := Lib.hid (Z3.out.trans (z4.mono Z3.out.size))
  have R1 := Lib.hid (RO.out.later z4)
  obtain ⟨o, e1, e2⟩ := plE_first calls who k
  have l2 := (plE_len calls who H30.out).2.2.2
  rw [hpl2, HPL.out] at e1 e2
  rw [hpl2] at l2
  simp only at e1 e2 l2
  have R2 := Lib.hid (show Pr w4.heap.size w4 Bo over from by
    have := ro2.take over.length
    rw [e1, List.take_left' rfl] at this
    exact this)
  have hlen : over2.length = over.length + o.length := by rw [e1]; simp
  have hlo : over.length ≤ bo := by omega
  obtain ⟨n1, hn1⟩ : ∃ n1, over.length = n1 := ⟨_, rfl⟩
  obtain ⟨n2, hn2⟩ : ∃ n2, over2.length = n2 := ⟨_, rfl⟩
  obtain ⟨a1, ha1⟩ : ∃ a1, a.length = a1 := ⟨_, rfl⟩
  have HN1 := Lib.hid hn1
  rw [hn1, hn2] at hlen
  rw [hn1] at hlo
  rw [hn2, HNW.out] at l2
  rw [ha1] at e2
  rw [hn1, hn2, ha1, e2]
  have hb1 : n1 ≤ n2 := by omega
  have hb2 : n2 ≤ 500 := by omega
  have hb4 : decide ((n2 : Int) < (n1 : Int)) = false := decide_eq_false (by omega)
  clear ro2 z4 hlen e1 e2 l2 hn1 hn2 ha1 RO HA3 HB3 Z3 hpl2 hco2 hco
  go_wp2_with fail
  refine (frames_same Ao Bo n1 co bo over w4 R1.out R2.out HN1.out (by omega)).mono ?_
  rintro _ w5 ⟨rfl, z5⟩
  have Z5 := Lib.hid (Z4.out.trans (z5.mono Z4.out.size))
  clear z5
  go_wp2
  go_ret
  exact ⟨rfl, Z5.out⟩
end Go.Proofs.Ytgemaeibmgkneaa
