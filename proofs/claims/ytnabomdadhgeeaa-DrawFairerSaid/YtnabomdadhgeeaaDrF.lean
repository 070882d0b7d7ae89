/- Contracts of the document's own Picks, named and Fair. -/
import Derived.Test.YtnabomdadhgeeaaDrE
import Derived.Test.YtnabomdadhgeeaaDrQ
namespace Go.Proofs.Ytnabomdadhgeeaa
open Go.RowKit Go.Deep
attribute [local go_sem ↓] eql_pk neq_pk guard_pk
theorem take_more {α : Type} {l k : List α} {j : Nat} (hl : j < l.length) (hk : j < k.length) (h : l.take j = k.take j) (hx : l[j] = k[j]) : l.take (j + 1) = k.take (j + 1) := by
  rw [List.take_succ_eq_append_getElem hl, List.take_succ_eq_append_getElem hk, h, hx]
theorem differ {α : Type} [DecidableEq α] {l k : List α} {j : Nat} (hl : j < l.length) (hk : j < k.length) (hx : ¬ l[j] = k[j]) : decide (l = k) = false := by
  apply decide_eq_false
  rintro rfl
  exact hx rfl
theorem agree {α : Type} [DecidableEq α] {l k : List α} {j n : Nat} (hl : l.length = n) (hk : k.length = n) (hj : j ≤ n) (hn : ¬ j < n) (h : l.take j = k.take j) : decide (l = k) = true := by
  obtain rfl : j = n := by omega
  rw [List.take_of_length_le (by omega), List.take_of_length_le (by omega)] at h
  exact decide_eq_true h
theorem picks_len (A B : Option Addr) (n c m d : Nat) (w : World) (hne : n ≠ m) : Tells 11 #[.slice A n c, .slice B m d] w (.bool false) := by
  go_enter Try.func11, Try.ntmps11
  go_wp2
  go_ret
  exact ⟨rfl, Below.refl _ _⟩
set_option maxHeartbeats 1000000 in
theorem picks_eq (A B : Option Addr) (n c d n₀ : Nat) (l k : List Pk) (w : World) (ha : Pr n₀ w A l) (hb : Pr n₀ w B k) (hn : l.length = n) (hm : k.length = n) (hs : n ≤ 1000) : Tells 11 #[.slice A n c, .slice B n d] w (.bool (decide (l = k))) := by
  have HA := Lib.hid ha
  have HB := Lib.hid hb
  have HN := Lib.hid hn
  have HM := Lib.hid hm
  clear ha hb hn hm
  go_enter Try.func11, Try.ntmps11
  go_wp2
  go_loopw [5] (fun i wr => ∃ j q : Nat, j ≤ n ∧ i = .int .i64 j ∧ l.take j = k.take j ∧ wr = w.drewN q) (fun i _ => n - (intOf i).toNat)
  case atStart => exact ⟨0, 0, Nat.zero_le _, rfl, by simp, rfl⟩
  case round =>
    obtain ⟨j, q, hj, rfl, heq, rfl⟩ := hrel
    have HE := Lib.hid heq
    clear heq
    by_cases hlt : j < n
    · obtain ⟨a1, o1, rfl, hal, hx1, hx2, hx3⟩ := HA.out.at (i := j) (by rw [HN.out]; exact hlt)
      obtain ⟨a2, o2, rfl, hbl, hy1, hy2, hy3⟩ := HB.out.at (i := j) (by rw [HM.out]; exact hlt)
      generalize hX : l[j]'(by rw [HN.out]; exact hlt) = x at hx1 hx2 hx3
      generalize hY : k[j]'(by rw [HM.out]; exact hlt) = y at hy1 hy2 hy3
      have HX := Lib.hid hX
      have HY := Lib.hid hY
      clear hX hY
      by_cases hxy : x = y
      · have hne := pe_yes hxy
        have HXY := Lib.hid hxy
        clear hxy
        go_wp2_with fail
        go_quiet (fail)
        go_wp2
        go_roundw
        case rel => exact ⟨j + 1, q + nq, by omega, by go_num, take_more (by rw [HN.out]; exact hlt) (by rw [HM.out]; exact hlt) HE.out (by rw [HX.out, HY.out, HXY.out]), by simp⟩
        case measure => simp [intOf]; omega
      · have hne := pe_no hxy
        have HXY := Lib.hid hxy
        clear hxy
        go_wp2_with fail
        go_quiet (fail)
        go_wp2
        go_ret
        exact ⟨by rw [differ (j := j) (by rw [HN.out]; exact hlt) (by rw [HM.out]; exact hlt) (by rw [HX.out, HY.out]; exact HXY.out)]; rfl, ⟨rfl, rfl, rfl, Nat.le_refl _, fun _ _ => rfl⟩⟩
    · go_wp2
      go_ret
      exact ⟨by rw [agree HN.out HM.out hj hlt HE.out]; rfl, below_drewN _ _⟩
/-- Does a stretch name somebody? -/
def nm (l : List Pk) (k who : Int) : Bool := l.any fun x => decide (x.1 = k ∧ x.2.1 = who)
theorem nm_yes {l : List Pk} {k who : Int} {j : Nat} (hj : j < l.length) (h1 : l[j].1 = k) (h2 : l[j].2.1 = who) : nm l k who = true := by
  unfold nm
  rw [List.any_eq_true]
  exact ⟨_, List.getElem_mem hj, decide_eq_true ⟨h1, h2⟩⟩
theorem nm_no {l : List Pk} {k who : Int} (h : ∀ j, (hj : j < l.length) → ¬ (l[j].1 = k ∧ l[j].2.1 = who)) : nm l k who = false := by
  unfold nm
  rw [List.any_eq_false]
  intro x hx
  obtain ⟨j, hj, rfl⟩ := List.getElem_of_mem hx
  simpa using h j hj
set_option maxHeartbeats 400000 in
theorem named_any (A : Option Addr) (n c n₀ : Nat) (l : List Pk) (k who : Int) (w : World) (ha : Pr n₀ w A l) (hn : l.length = n) (hs : n ≤ 1000) : Gives 23 #[.slice A n c, .int .i64 k, .int .i64 who] w (.bool (nm l k who)) := by
  have HA := Lib.hid ha
  have HN := Lib.hid hn
  clear ha hn
  go_enter Try.func23, Try.ntmps23
  go_wp2
  go_loop [7] (fun i => ∃ j : Nat, j ≤ n ∧ i = .int .i64 j ∧ ∀ i, (hi : i < l.length) → i < j → ¬ (l[i].1 = k ∧ l[i].2.1 = who)) (fun i => n - (intOf i).toNat)
  case atStart => exact ⟨0, Nat.zero_le _, rfl, fun i hi h => by omega⟩
  case round =>
    obtain ⟨j, hj, rfl, hall⟩ := hrel
    have HL := Lib.hid hall
    clear hall
    by_cases hlt : j < n
    · have hjl : j < l.length := by rw [HN.out]; exact hlt
      obtain ⟨a1, o1, rfl, hal, hx1, hx2, hx3⟩ := HA.out.at hjl
      by_cases h1 : l[j].1 = k
      · have h1' : (l[j].1 == k) = true := by simpa using h1
        by_cases h2 : l[j].2.1 = who
        · have h2' : (l[j].2.1 == who) = true := by simpa using h2
          have E := Lib.hid (nm_yes hjl h1 h2)
          clear h1 h2
          go_wp2
          go_ret
          exact ⟨by rw [E.out]; rfl, rfl⟩
        · have h2' : (l[j].2.1 == who) = false := by simpa using h2
          have E := Lib.hid h2
          clear h1 h2
          go_wp2
          go_round
          case rel => exact ⟨j + 1, by omega, by go_num, fun i hi h => by
            by_cases e : i = j
            · subst e; exact fun k => E.out k.2
            · exact HL.out i hi (by omega)⟩
          case measure => simp [intOf]; omega
      · have h1' : (l[j].1 == k) = false := by simpa using h1
        have E := Lib.hid h1
        clear h1
        go_wp2
        go_round
        case rel => exact ⟨j + 1, by omega, by go_num, fun i hi h => by
          by_cases e : i = j
          · subst e; exact fun k => E.out k.1
          · exact HL.out i hi (by omega)⟩
        case measure => simp [intOf]; omega
    · have E := Lib.hid (nm_no (l := l) (k := k) (who := who) (fun i hi => HL.out i hi (by have := HN.out; omega)))
      go_wp2
      go_ret
      exact ⟨by rw [E.out]; rfl, rfl⟩
theorem picks_any (A B : Option Addr) (c d n₀ : Nat) (l k : List Pk) (w : World) (ha : Pr n₀ w A l) (hb : Pr n₀ w B k) (hs : l.length ≤ 1000) : Tells 11 #[.slice A l.length c, .slice B k.length d] w (.bool (decide (l = k))) := by
  by_cases h : k.length = l.length
  · rw [h]
    exact picks_eq A B l.length c d n₀ l k w ha hb rfl h hs
  · have e : decide (l = k) = false := decide_eq_false (by rintro rfl; exact h rfl)
    rw [e]
    exact picks_len A B _ c _ d w (fun e => h e.symm)
/-- Does a stretch name the one of place k? -/
def seen (l : List Pk) (m k : Nat) : Bool := if k < m then nm l 0 k else nm l 1 ((k : Int) - m)
/-- Does the stretch of f picks from i on name all? -/
def okAt (l : List Pk) (m q f i : Nat) : Bool := (List.range (m + q)).all fun k => seen ((l.drop i).take f) m k
def fairN (l : List Pk) (m q f : Nat) : Bool := (List.range l.length).all fun i => decide (l.length < i + f) || okAt l m q f i
/-- Is nobody forgotten? -/
def fair (l : List Pk) (w s f : Int) : Bool := mt w s && decide (1 ≤ f) && fairN l w.toNat s.toNat f.toNat
theorem okAt_iff {l : List Pk} {m q f i : Nat} : okAt l m q f i = true ↔ ∀ k, k < m + q → seen ((l.drop i).take f) m k = true := by
  unfold okAt
  rw [List.all_eq_true]
  exact ⟨fun h k hk => h k (List.mem_range.2 hk), fun h k hk => h k (List.mem_range.1 hk)⟩
theorem fairN_iff {l : List Pk} {m q f : Nat} (hf : 1 ≤ f) : fairN l m q f = true ↔ ∀ i, i + f ≤ l.length → okAt l m q f i = true := by
  unfold fairN
  rw [List.all_eq_true]
  refine ⟨fun h i hi => ?_, fun h i hi => ?_⟩
  · have := h i (List.mem_range.2 (by omega))
    rw [decide_eq_false (by omega)] at this
    simpa using this
  · by_cases e : l.length < i + f
    · rw [decide_eq_true e]; rfl
    · rw [h i (by omega)]; simp
theorem fair_no {l : List Pk} {w s f : Int} (h : mt w s = false ∨ f < 1) : fair l w s f = false := by
  unfold fair
  rcases h with h | h
  · rw [h]; rfl
  · rw [decide_eq_false (by omega)]; simp
theorem fair_yes {l : List Pk} {m q f : Nat} (hm : m ≤ 20) (hq : q ≤ 20) (hf : 1 ≤ f) : fair l m q f = fairN l m q f := by
  unfold fair
  rw [mt_iff.2 (by omega), decide_eq_true (by omega), Int.toNat_natCast, Int.toNat_natCast, Int.toNat_natCast]; rfl
theorem bool_no {b : Bool} (h : b = true → False) : b = false := by cases b; rfl; exact absurd rfl h
end Go.Proofs.Ytnabomdadhgeeaa
