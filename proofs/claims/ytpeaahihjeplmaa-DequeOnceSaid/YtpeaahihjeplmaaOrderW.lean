/- The walk of DequeOrder. -/
import Derived.Test.YtpeaahihjeplmaaDeY
namespace Go.Proofs.Ytpeaahihjeplmaa
open Go.RowKit Go.Deep Go.Shelf
/-- The last number that was stolen. -/
def lastST (l : List Fr) : Int := (ob isST l).getLast?.getD 0
theorem plO_order {D th : Int} {pops : List Bool} (hp : pops.length ≤ 60) (who : List Int) : (ob isST (plO D th (cs pops) who).over).Pairwise (· < ·) ∧ (∀ u ∈ ob isST (plO D th (cs pops) who).over, 1 ≤ u) ∧ ∀ g ∈ (plO D th (cs pops) who).over, okO th.toNat g := by
  unfold plO
  cases hk : plK D th
  · rw [if_neg (by simp)]; simp [ob]
  · rw [if_pos rfl]
    unfold plK at hk
    simp only [Bool.and_eq_true, decide_eq_true_eq] at hk
    have h1 := play_order (th := th) hk.1 hp who
    exact ⟨h1.1, h1.2, (play_over hk.1 hp who).2⟩
theorem cs_UF (pops : List Bool) (hp : pops.length ≤ 60) : ∀ f ∈ cs pops, UF f := by
  intro f hf
  unfold cs at hf
  obtain ⟨i, hi, e⟩ := List.mem_iff_getElem.1 hf
  simp only [List.getElem_mapIdx] at e
  simp at hi
  subst e
  split <;> (unfold UF U; simp; try omega)
theorem order_step {l : List Fr} (hp : (ob isST l).Pairwise (· < ·)) (h1 : ∀ u ∈ ob isST l, 1 ≤ u) {j : Nat} (hj : j < l.length) (hs : isST l[j] = true) : lastST (l.take j) < l[j].val ∧ lastST (l.take (j + 1)) = l[j].val := by
  have e : ob isST (l.take (j + 1)) = ob isST (l.take j) ++ [l[j].val] := by
    rw [List.take_succ_eq_append_getElem hj, ob_snoc, if_pos hs]
  have e2 : ob isST l = ob isST (l.take (j + 1)) ++ ob isST (l.drop (j + 1)) := by rw [← ob_append, List.take_append_drop]
  rw [e2] at hp h1
  have hp2 := (List.pairwise_append.1 hp).1
  rw [e] at hp2
  have hp3 := (List.pairwise_append.1 hp2).2.2
  refine ⟨?_, ?_⟩
  · unfold lastST
    cases hl : (ob isST (l.take j)).getLast? with
    | none =>
      have := h1 l[j].val (by rw [e]; simp)
      simp; omega
    | some u => exact hp3 u (List.mem_of_getLast? hl) _ (by simp)
  · unfold lastST; rw [e]; simp
theorem order_skip {l : List Fr} {j : Nat} (hj : j < l.length) (hs : isST l[j] = false) : lastST (l.take (j + 1)) = lastST (l.take j) := by
  unfold lastST
  rw [List.take_succ_eq_append_getElem hj, ob_snoc, if_neg (by simp [hs]), List.append_nil]
set_option maxRecDepth 100000 in
set_option maxHeartbeats 4000000 in
theorem order_tells (D th : Int) (A B : Option Addr) (n c nw cw : Nat) (pops : List Bool) (who : List Int) (w : World) (hP : Rb w A pops) (hW : Ri w B who) (hn : pops.length = n) (hnw : who.length = nw) :
    Tells 5 #[.int .i64 D, .int .i64 th, .slice A n c, .slice B nw cw] w (.bool true) := by
  have HP := Lib.hid hP
  have HW := Lib.hid hW
  have HN := Lib.hid hn
  have HNW := Lib.hid hnw
  clear hP hW hn hnw
  go_enter Try.func5, Try.ntmps5
  go_wp2_with fail
  refine (awake_any _).mono ?_
  rintro _ w1 ⟨rfl, z1⟩
  have Z1 := Lib.hid z1
  clear z1
  by_cases h60 : n ≤ 60
  · by_cases h500 : nw ≤ 500
    · have d1 : decide ((n : Int) > 60) = false := decide_eq_false (by omega)
      have d2 : decide ((nw : Int) > 500) = false := decide_eq_false (by omega)
      go_wp2_with fail
      refine (lcalls_any A n c pops w1 (HP.out.below Z1.out) HN.out h60).mono ?_
      rintro _ w2 ⟨Q, d, rfl, hq, z2⟩
      have HQ := Lib.hid hq.pr
      have HCAP := Lib.hid (ow_cap hq)
      have Z2 := Lib.hid (Z1.out.trans (z2.mono Z1.out.size))
      clear hq z2
      go_wp2_with fail
      refine (play_any D th Q B d cw n nw (cs pops) who w2 HQ.out (HW.out.below Z2.out) HCAP.out (by rw [cs_len]; exact HN.out) HNW.out (by omega) (cs_UF pops (by rw [HN.out]; exact h60))).mono ?_
      obtain ⟨o1, o2, o3⟩ := plO_order (D := D) (th := th) (pops := pops) (by rw [HN.out]; exact h60) who
      have o4 := (plO_U (D := D) (th := th) (cs_UF pops (by rw [HN.out]; exact h60)) who).2.2.2.2
      rw [HNW.out] at o4
      generalize plO D th (cs pops) who = s at o1 o2 o3 o4 ⊢
      have hol : s.over.length ≤ 500 := by omega
      clear o4
      rintro _ w3 ⟨Am, cm, Ao, co, Aa, ca, rfl, _, ro, _, _, z3⟩
      have RO := Lib.hid ro
      have Z3 := Lib.hid (Z2.out.trans (z3.mono Z2.out.size))
      have O1 := Lib.hid o1
      have O2 := Lib.hid o2
      have O3 := Lib.hid o3
      clear ro z3 o1 o2 o3
      go_wp2
      go_loopw [13, 14] (fun q x wr => ∃ (j : Nat), q = .int .u64 (lastST (s.over.take j)) ∧ x = .int .i64 j ∧ j ≤ s.over.length ∧ wr = w3) (fun _ x _ => s.over.length - (intOf x).toNat)
      case atStart => exact ⟨0, by simp [lastST, ob], rfl, Nat.zero_le _, rfl⟩
      case round =>
        obtain ⟨j, rfl, rfl, hj, rfl⟩ := hrel
        by_cases hlt : j < s.over.length
        · obtain ⟨b, off, rfl, hbl, hc7⟩ := RO.out.at hlt
          have hok := O3.out _ (List.getElem_mem hlt)
          have hst := order_step O1.out O2.out hlt
          have hsk := order_skip (l := s.over) hlt
          obtain ⟨f, hf⟩ : ∃ f, s.over[j] = f := ⟨_, rfl⟩
          rw [hf] at hc7 hok hst hsk
          obtain ⟨o, p, q, vv, xx, y, r⟩ := f
          obtain ⟨a0, a1, a2, a3, a4, a5, a6⟩ := hc7
          simp only at a0 a1 a2 a3 a4 a5 a6
          clear hf
          by_cases h1 : o = 2
          · have e1 : (o != 2) = false := by simp [h1]
            by_cases h2 : r = 1
            · have e2 : (r != 1) = false := by simp [h2]
              obtain ⟨s1, s2⟩ := hst (by simp [isST, h1, h2])
              unfold okO at hok
              simp only at hok s1 s2
              have hw : 1 ≤ q ∧ q ≤ th := by
                rcases hok.2.1 with h | h
                · omega
                · omega
              have e3 : decide (vv ≤ lastST (s.over.take j)) = false := decide_eq_false (by omega)
              have e4 : decide (q < 1) = false := decide_eq_false (by omega)
              have e5 : decide (q > th) = false := decide_eq_false (by omega)
              have S2 := Lib.hid s2
              clear hok hst hsk s1 s2 hw h1 h2
              generalize lastST (s.over.take j) = L at e3 ⊢
              go_wp2
              go_roundw
              case rel => exact ⟨j + 1, by rw [S2.out], by go_num, by omega, trivial⟩
              case measure => simp [intOf]; omega
            · have e2 : (r != 1) = true := by simp [h2]
              have S2 := Lib.hid (hsk (by simp [isST, h2]))
              clear hok hst hsk h1 h2
              generalize hL : lastST (s.over.take j) = L at S2 ⊢
              have HL := Lib.hid hL
              clear hL
              go_wp2
              go_roundw
              case rel => exact ⟨j + 1, by rw [S2.out], by go_num, by omega, trivial⟩
              case measure => simp [intOf]; omega
          · have e1 : (o != 2) = true := by simp [h1]
            have S2 := Lib.hid (hsk (by simp [isST, h1]))
            clear hok hst hsk h1
            generalize hL : lastST (s.over.take j) = L at S2 ⊢
            have HL := Lib.hid hL
            clear hL
            go_wp2
            go_roundw
            case rel => exact ⟨j + 1, by rw [S2.out], by go_num, by omega, trivial⟩
            case measure => simp [intOf]; omega
        · go_wp2
          go_ret
          exact ⟨rfl, Z3.out⟩
    · have d1 : decide ((n : Int) > 60) = false := decide_eq_false (by omega)
      have d2 : decide ((nw : Int) > 500) = true := decide_eq_true (by omega)
      go_wp2
      go_ret
      exact ⟨rfl, Z1.out⟩
  · have d1 : decide ((n : Int) > 60) = true := decide_eq_true (by omega)
    go_wp2
    go_ret
    exact ⟨rfl, Z1.out⟩
end Go.Proofs.Ytpeaahihjeplmaa
