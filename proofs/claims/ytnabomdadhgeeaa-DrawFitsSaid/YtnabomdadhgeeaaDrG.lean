/- Contract of the document's own Fair. -/
import Derived.Test.YtnabomdadhgeeaaDrF
namespace Go.Proofs.Ytnabomdadhgeeaa
open Go.RowKit Go.Deep
theorem rfair_no (A : Option Addr) (c n : Nat) (nw ns f : Int) (w : World) (h : mt nw ns = false ∨ f < 1) : Tells 17 #[.slice A n c, .int .i64 nw, .int .i64 ns, .int .i64 f] w (.bool false) := by
  have h' : ¬ (((0 ≤ nw ∧ nw ≤ 20) ∧ 0 ≤ ns ∧ ns ≤ 20) ∧ 1 ≤ f) := fun k => by
    rcases h with h | h
    · rw [mt_iff.2 k.1] at h; cases h
    · omega
  clear h
  by_cases h1 : nw < 0
  · have d1 : decide (nw < 0) = true := decide_eq_true h1
    go_enter Try.func17, Try.ntmps17
    go_wp2
    go_ret
    exact ⟨rfl, Below.refl _ _⟩
  · have d1 : decide (nw < 0) = false := decide_eq_false h1
    by_cases h2 : ns < 0
    · have d2 : decide (ns < 0) = true := decide_eq_true h2
      go_enter Try.func17, Try.ntmps17
      go_wp2
      go_ret
      exact ⟨rfl, Below.refl _ _⟩
    · have d2 : decide (ns < 0) = false := decide_eq_false h2
      by_cases h3 : 20 < nw
      · have d3 : decide (20 < nw) = true := decide_eq_true h3
        go_enter Try.func17, Try.ntmps17
        go_wp2
        go_ret
        exact ⟨rfl, Below.refl _ _⟩
      · have d3 : decide (20 < nw) = false := decide_eq_false h3
        by_cases h4 : 20 < ns
        · have d4 : decide (20 < ns) = true := decide_eq_true h4
          go_enter Try.func17, Try.ntmps17
          go_wp2
          go_ret
          exact ⟨rfl, Below.refl _ _⟩
        · have d4 : decide (20 < ns) = false := decide_eq_false h4
          have h5 : f < 1 := by omega
          have d5 : decide (f < 1) = true := decide_eq_true h5
          go_enter Try.func17, Try.ntmps17
          go_wp2
          go_ret
          exact ⟨rfl, Below.refl _ _⟩
set_option maxHeartbeats 2000000 in
theorem rfair_yes (A : Option Addr) (c n₀ : Nat) (l : List Pk) (m q f : Nat) (w : World) (ha : Pr n₀ w A l) (hs : l.length ≤ 1000) (hc : l.length ≤ c) (hcm : c ≤ maxLen) (hm : m ≤ 20) (hq : q ≤ 20) (hf : 1 ≤ f) (hfm : f ≤ 9223372036854775807) :
    Gives 17 #[.slice A l.length c, .int .i64 m, .int .i64 q, .int .i64 f] w (.bool (fairN l m q f)) := by
  have HA := Lib.hid ha
  unfold maxLen at hcm
  clear ha
  have d1 : decide ((m : Int) < 0) = false := decide_eq_false (by omega)
  have d2 : decide ((q : Int) < 0) = false := decide_eq_false (by omega)
  have d3 : decide ((20 : Int) < (m : Int)) = false := decide_eq_false (by omega)
  have d4 : decide ((20 : Int) < (q : Int)) = false := decide_eq_false (by omega)
  have d5 : decide ((f : Int) < 1) = false := decide_eq_false (by omega)
  go_enter Try.func17, Try.ntmps17
  go_wp2
  clear d1 d2 d3 d4 d5
  go_loop [9] (fun x => ∃ i : Nat, i ≤ l.length ∧ x = .int .i64 i ∧ ∀ i', i' < i → i' + f ≤ l.length → okAt l m q f i' = true) (fun x => l.length - (intOf x).toNat)
  case atStart => exact ⟨0, Nat.zero_le _, rfl, fun i h => by omega⟩
  case round =>
    obtain ⟨i, hi, rfl, hall⟩ := hrel
    have HL := Lib.hid hall
    clear hall
    by_cases hlt : i < l.length
    · have hlt' : decide (i < l.length) = true := decide_eq_true hlt
      by_cases hfl : f + i ≤ l.length
      · have hfl' : (f : Int) ≤ (l.length : Int) - (i : Int) := by omega
        obtain ⟨b, off, rfl, hbl, hce⟩ := HA.out (by omega)
        have hci : ¬ c = i := by omega
        have hfi : f + i ≤ c := by omega
        have P := Lib.hid (HA.out.part i f)
        have PL := Lib.hid (show ((l.drop i).take f).length = f by simp; omega)
        clear hce
        go_wp2
        go_loop [10] (fun x => ∃ k : Nat, k ≤ m + q ∧ x = .int .i64 k ∧ ∀ k', k' < k → seen ((l.drop i).take f) m k' = true) (fun x => m + q - (intOf x).toNat)
        case atStart => exact ⟨0, Nat.zero_le _, rfl, fun i h => by omega⟩
        case round =>
          obtain ⟨k, hk, rfl, hsn⟩ := hrel
          have HS := Lib.hid hsn
          clear hsn
          by_cases hkl : k < m + q
          · by_cases hkm : k < m
            · have hkm' : decide (k < m) = true := decide_eq_true hkm
              cases hn : nm ((l.drop i).take f) 0 k
              · have HN := Lib.hid hn
                have FE := Lib.hid (show fairN l m q f = false from bool_no (fun h => by
                  have h2 := okAt_iff.1 ((fairN_iff hf).1 h i (by omega)) k hkl
                  unfold seen at h2
                  rw [if_pos hkm, hn] at h2
                  cases h2))
                clear hn
                go_wp2_with fail
                refine (Gives.of (named_any _ f _ n₀ ((l.drop i).take f) 0 k w P.out PL.out (by omega)) (v' := .bool false) (by rw [HN.out])).mono ?_
                rintro _ w1 ⟨rfl, e1⟩
                rw [e1]
                clear e1 w1
                go_wp2
                go_ret
                exact ⟨by rw [FE.out]; rfl, rfl⟩
              · have HN := Lib.hid hn
                have SE := Lib.hid (show seen ((l.drop i).take f) m k = true by unfold seen; rw [if_pos hkm]; exact hn)
                clear hn
                go_wp2_with fail
                refine (Gives.of (named_any _ f _ n₀ ((l.drop i).take f) 0 k w P.out PL.out (by omega)) (v' := .bool true) (by rw [HN.out])).mono ?_
                rintro _ w1 ⟨rfl, e1⟩
                rw [e1]
                clear e1 w1
                go_wp2
                go_round
                case rel => exact ⟨k + 1, by omega, by go_num, fun k' h => by
                  by_cases e : k' = k
                  · subst e; exact SE.out
                  · exact HS.out k' (by omega)⟩
                case measure => simp [intOf]; omega
            · have hkm' : decide (k < m) = false := decide_eq_false hkm
              have hkm2 : decide (m ≤ k) = true := decide_eq_true (by omega)
              cases hn : nm ((l.drop i).take f) 1 ((k : Int) - m)
              · have HN := Lib.hid hn
                have FE := Lib.hid (show fairN l m q f = false from bool_no (fun h => by
                  have h2 := okAt_iff.1 ((fairN_iff hf).1 h i (by omega)) k hkl
                  unfold seen at h2
                  rw [if_neg hkm, hn] at h2
                  cases h2))
                clear hn
                go_wp2_with fail
                refine (Gives.of (named_any _ f _ n₀ ((l.drop i).take f) 1 ((k : Int) - m) w P.out PL.out (by omega)) (v' := .bool false) (by rw [HN.out])).mono ?_
                rintro _ w1 ⟨rfl, e1⟩
                rw [e1]
                clear e1 w1
                go_wp2
                go_ret
                exact ⟨by rw [FE.out]; rfl, rfl⟩
              · have HN := Lib.hid hn
                have SE := Lib.hid (show seen ((l.drop i).take f) m k = true by unfold seen; rw [if_neg hkm]; exact hn)
                clear hn
                go_wp2_with fail
                refine (Gives.of (named_any _ f _ n₀ ((l.drop i).take f) 1 ((k : Int) - m) w P.out PL.out (by omega)) (v' := .bool true) (by rw [HN.out])).mono ?_
                rintro _ w1 ⟨rfl, e1⟩
                rw [e1]
                clear e1 w1
                go_wp2
                go_round
                case rel => exact ⟨k + 1, by omega, by go_num, fun k' h => by
                  by_cases e : k' = k
                  · subst e; exact SE.out
                  · exact HS.out k' (by omega)⟩
                case measure => simp [intOf]; omega
          · have OK := Lib.hid (show okAt l m q f i = true from okAt_iff.2 (fun k' hk' => HS.out k' (by omega)))
            go_wp2
            go_round
            case rel => exact ⟨i + 1, by omega, by go_num, fun i' h h' => by
              by_cases e : i' = i
              · subst e; exact OK.out
              · exact HL.out i' (by omega) h'⟩
            case measure => simp [intOf]; omega
      · have FE := Lib.hid (show fairN l m q f = true from (fairN_iff hf).2 (fun i' h' => HL.out i' (by omega) h'))
        have hfl' : ¬ (f : Int) ≤ (l.length : Int) - (i : Int) := by omega
        go_wp2
        go_ret
        exact ⟨by rw [FE.out]; rfl, rfl⟩
    · have FE := Lib.hid (show fairN l m q f = true from (fairN_iff hf).2 (fun i' h' => HL.out i' (by omega) h'))
      have hlt' : decide (i < l.length) = false := decide_eq_false hlt
      go_wp2
      go_ret
      exact ⟨by rw [FE.out]; rfl, rfl⟩
theorem rfair_any (A : Option Addr) (c n₀ : Nat) (l : List Pk) (nw ns f : Int) (w : World) (ha : Pr n₀ w A l) (hs : l.length ≤ 1000) (hc : l.length ≤ c) (hcm : c ≤ maxLen) (hf : I f) :
    Tells 17 #[.slice A l.length c, .int .i64 nw, .int .i64 ns, .int .i64 f] w (.bool (fair l nw ns f)) := by
  unfold I at hf
  by_cases h : mt nw ns = false ∨ f < 1
  · rw [fair_no h]
    exact rfair_no A c _ nw ns f w h
  · have h1 : mt nw ns = true := by cases e : mt nw ns; exact absurd (.inl e) h; rfl
    have hr := mt_iff.1 h1
    have h2 : ¬ f < 1 := fun e => h (.inr e)
    obtain ⟨m, rfl⟩ : ∃ m : Nat, nw = m := ⟨nw.toNat, by omega⟩
    obtain ⟨q, rfl⟩ : ∃ q : Nat, ns = q := ⟨ns.toNat, by omega⟩
    obtain ⟨g, rfl⟩ : ∃ g : Nat, f = g := ⟨f.toNat, by omega⟩
    rw [fair_yes (by omega) (by omega) (by omega)]
    exact (rfair_yes A c n₀ l m q g w ha hs hc hcm (by omega) (by omega) (by omega) (by omega)).tells
end Go.Proofs.Ytnabomdadhgeeaa
