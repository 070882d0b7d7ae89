/- Contracts of Roots, Sums and Few. -/
import Derived.Test.YtajbnpjdhmeeiaaFoD
namespace Go.Proofs.Ytajbnpjdhmeeiaa
open Go.RowKit Go.Deep

/-- A call that hands back a row of numbers, in new memory. -/
def RetL (w : World) (l : List Int) (e : Ending) (w' : World) : Prop := ∃ A c, e = .returned (.slice A l.length c) ∧ RdB w'.heap.size w' A l ∧ Below w.heap.size w w'
theorem Own.lt {w : World} {base : Nat} {A : Option Addr} {n c : Nat} {l : List Int} (h : Own w base A n c l) : l.length = n := h.len

/-- The roots among the first j tasks. -/
def rtN (T : List Tsk) (j : Nat) : List Int := ((List.range j).filter fun k : Nat => decide (pa T (k : Int) = -1)).map fun k : Nat => (k : Int)
def rts (T : List Tsk) : List Int := if may T then rtN T T.length else []
theorem rtN_yes {T : List Tsk} {j : Nat} (h : pa T j = -1) : rtN T (j + 1) = rtN T j ++ [(j : Int)] := by
  unfold rtN
  rw [List.range_succ, List.filter_append, List.map_append]
  simp [h]
theorem rtN_no {T : List Tsk} {j : Nat} (h : ¬ pa T j = -1) : rtN T (j + 1) = rtN T j := by
  unfold rtN
  rw [List.range_succ, List.filter_append, List.map_append]
  simp [h]
theorem rtN_le (T : List Tsk) (j : Nat) : (rtN T j).length ≤ j := by
  unfold rtN
  rw [List.length_map]
  have := List.length_filter_le (fun k : Nat => decide (pa T (k : Int) = -1)) (List.range j)
  simpa using this
theorem par_yes {T : List Tsk} {k : Int} (h : may T = true) : par T k = pa T k := by unfold par; rw [if_pos h]

theorem new_rd (w : World) (k : Int) : Rd (w.alloc (.cells #[.int .i64 k] 3)) (some ⟨w.heap.size, 0, none⟩) [k] := (show Bk (w.alloc (.cells #[.int .i64 k] 3)) w.heap.size [k] from World.alloc_heap_new w _).rd
theorem Own.alloc {w : World} {base : Nat} {A : Option Addr} {n c : Nat} {l : List Int} (h : Own w base A n c l) (o : Obj) : Own (w.alloc o) base A n c l := World.ownsRow.alloc h _
theorem Own.below {w w' : World} {base : Nat} {A : Option Addr} {n c : Nat} {l : List Int} (h : Own w base A n c l) (hb : Below w.heap.size w w') : Own w' base A n c l := by
  refine ⟨h.1, ?_⟩
  rcases h.2 with h2 | ⟨g, cap, cur, hv, hbg, hg, hr⟩
  · exact .inl h2
  · exact .inr ⟨g, cap, cur, hv, hbg, (hb.block g (Array.getElem?_eq_some_iff.1 hg).1).trans hg, hr⟩

theorem roots_no (A : Option Addr) (c n₀ : Nat) (T : List Tsk) (w : World) (hT : Tk n₀ w A T) (hn₀ : n₀ ≤ w.heap.size) (hs : Sm T) (hm : may T = false) : Calls Try.prog 17 #[.slice A T.length c] w (RetL w []) := by
  have HT := Lib.hid hT
  have HS := Lib.hid hs
  have HM := Lib.hid hm
  clear hT hs hm
  go_enter Try.func17, Try.ntmps17
  go_wp2_with fail
  refine (Tells.of (may_any A c n₀ T _ HT.out hn₀ HS.out) (v' := .bool false) (by rw [HM.out])).mono ?_
  rintro _ w1 ⟨rfl, z1⟩
  have Z := Lib.hid z1
  clear z1
  go_wp2
  go_ret
  exact ⟨none, 0, rfl, fun h => by simp at h, Z.out⟩
set_option maxHeartbeats 800000 in
theorem roots_yes (A : Option Addr) (c n₀ : Nat) (T : List Tsk) (w : World) (hT : Tk n₀ w A T) (hn₀ : n₀ ≤ w.heap.size) (hs : Sm T) (hm : may T = true) : Calls Try.prog 17 #[.slice A T.length c] w (RetL w (rtN T T.length)) := by
  have HT := Lib.hid hT
  have HS := Lib.hid hs
  have HM := Lib.hid hm
  have hs1 := hs.1
  clear hT hs hm
  go_enter Try.func17, Try.ntmps17
  go_wp2_with fail
  refine (Tells.of (may_any A c n₀ T _ HT.out hn₀ HS.out) (v' := .bool true) (by rw [HM.out])).mono ?_
  rintro _ w1 ⟨rfl, z1⟩
  have Z := Lib.hid z1
  clear z1
  go_wp2_with fail
  go_loopw [3, 10] (fun s i wr => ∃ (j : Nat) (R : Option Addr) (d : Nat), j ≤ T.length ∧ i = .int .i64 j ∧ s = .slice R (rtN T j).length d ∧ Own wr w.heap.size R (rtN T j).length d (rtN T j) ∧ Below w.heap.size w wr) (fun _ i _ => T.length - (intOf i).toNat)
  case atStart => exact ⟨0, none, 0, Nat.zero_le _, rfl, rfl, World.ownsRow_nil _ _ _ _, Z.out⟩
  case round =>
    obtain ⟨j, R, d, hj, rfl, rfl, hO, hB⟩ := hrel
    have HO := Lib.hid hO
    have HB := Lib.hid hB
    have hl := rtN_le T j
    clear hO hB
    by_cases hlt : j < T.length
    · by_cases hp : pa T j = -1
      · have HP := Lib.hid hp
        clear hp
        go_wp2_with fail
        refine (Tells.of (parent_any A c n₀ T j _ (HT.out.below (HB.out.mono hn₀)) (Nat.le_trans hn₀ HB.out.size) HS.out) (v' := .int .i64 (-1)) (by rw [par_yes HM.out, HP.out])).mono ?_
        rintro _ w2 ⟨rfl, z2⟩
        have z3 := HB.out.trans (z2.mono HB.out.size)
        have o2 := (HO.out.below z2).alloc (.cells #[.int .i64 (j : Int)] 3)
        obtain ⟨R', d', w3, hrun, hown, hb⟩ := run_app (m := 1) o2 1 (new_rd w2 j) rfl (by omega) (by have := z3.size; simp; omega)
        have RUN := Lib.hid hrun
        have OWN := Lib.hid hown
        have B3 := Lib.hid ((z3.alloc z3.size _).trans hb)
        clear z2 z3 o2 hrun hown hb
        go_wp2_with (at_builtin; (with_reducible refine wpList_append_run RUN.out ?_ ?_ ?_ ?_); exact ⟨_, _, rfl, rfl, rfl⟩; rfl; rfl)
        have e : (rtN T (j + 1)).length = (rtN T j).length + 1 := by rw [rtN_yes HP.out]; simp
        have HE := Lib.hid e
        clear e
        go_roundw
        case rel => exact ⟨j + 1, R', d', by omega, by go_num, by rw [HE.out], by rw [HE.out, rtN_yes HP.out]; exact OWN.out, B3.out⟩
        case measure => simp [intOf]; omega
      · have HP := Lib.hid hp
        have hp' : (pa T j == -1) = false := by simpa using hp
        clear hp
        go_wp2_with fail
        refine (Tells.of (parent_any A c n₀ T j _ (HT.out.below (HB.out.mono hn₀)) (Nat.le_trans hn₀ HB.out.size) HS.out) (v' := .int .i64 (pa T j)) (by rw [par_yes HM.out])).mono ?_
        rintro _ w2 ⟨rfl, z2⟩
        have Z3 := Lib.hid (HB.out.trans (z2.mono HB.out.size))
        have O2 := Lib.hid (HO.out.below z2)
        clear z2
        go_wp2
        go_roundw
        case rel => exact ⟨j + 1, R, d, by omega, by go_num, by rw [rtN_no HP.out], by rw [rtN_no HP.out]; exact O2.out, Z3.out⟩
        case measure => simp [intOf]; omega
    · go_wp2
      go_ret
      obtain rfl : j = T.length := by omega
      exact ⟨R, d, rfl, HO.out.rd.rdB, HB.out⟩
theorem roots_any (A : Option Addr) (c n₀ : Nat) (T : List Tsk) (w : World) (hT : Tk n₀ w A T) (hn₀ : n₀ ≤ w.heap.size) (hs : Sm T) : Calls Try.prog 17 #[.slice A T.length c] w (RetL w (rts T)) := by
  unfold rts
  cases h : may T
  · exact roots_no A c n₀ T w hT hn₀ hs h
  · exact roots_yes A c n₀ T w hT hn₀ hs h

/-- All work of the first j tasks. -/
def smN (T : List Tsk) : Nat → Int
  | 0 => 0
  | j + 1 => smN T j + (T.getD j (0, [])).1
def sms (T : List Tsk) : Int × Int := if may T then (T.length, smN T T.length) else (0, 0)
theorem wk_at {T : List Tsk} (h : wk T = true) {j : Nat} (hj : j < T.length) : 0 ≤ T[j].1 ∧ T[j].1 ≤ 20 := by
  by_cases e : 0 ≤ T[j].1 ∧ T[j].1 ≤ 20
  · exact e
  · rw [wk_no hj e] at h; cases h
theorem smN_succ {T : List Tsk} {j : Nat} (hj : j < T.length) : smN T (j + 1) = smN T j + T[j].1 := by
  rw [smN, List.getD_eq_getElem?_getD, List.getElem?_eq_getElem hj]; rfl
theorem smN_le {T : List Tsk} (h : wk T = true) {j : Nat} (hj : j ≤ T.length) : 0 ≤ smN T j ∧ smN T j ≤ 20 * j := by
  induction j with
  | zero => simp [smN]
  | succ j ih =>
    have := ih (by omega)
    have := wk_at h (show j < T.length by omega)
    rw [smN_succ (show j < T.length by omega)]
    omega
theorem may_parts {T : List Tsk} (h : may T = true) : T.length ≤ 30 ∧ wk T = true ∧ okP T.length (sp T) := by
  unfold may kd at h
  simpa using h
theorem sums_no (A : Option Addr) (c n₀ : Nat) (T : List Tsk) (w : World) (hT : Tk n₀ w A T) (hn₀ : n₀ ≤ w.heap.size) (hs : Sm T) (hm : may T = false) : Tells 12 #[.slice A T.length c] w (.tuple #[.int .i64 0, .int .i64 0]) := by
  have HT := Lib.hid hT
  have HS := Lib.hid hs
  have HM := Lib.hid hm
  clear hT hs hm
  go_enter Try.func12, Try.ntmps12
  go_wp2_with fail
  refine (Tells.of (may_any A c n₀ T _ HT.out hn₀ HS.out) (v' := .bool false) (by rw [HM.out])).mono ?_
  rintro _ w1 ⟨rfl, z1⟩
  have Z := Lib.hid z1
  clear z1
  go_wp2
  go_ret2
  exact ⟨rfl, Z.out⟩
set_option maxHeartbeats 800000 in
theorem sums_yes (A : Option Addr) (c n₀ : Nat) (T : List Tsk) (w : World) (hT : Tk n₀ w A T) (hn₀ : n₀ ≤ w.heap.size) (hs : Sm T) (hm : may T = true) : Tells 12 #[.slice A T.length c] w (.tuple #[.int .i64 T.length, .int .i64 (smN T T.length)]) := by
  have HT := Lib.hid hT
  have HS := Lib.hid hs
  have HM := Lib.hid hm
  have hs1 := hs.1
  obtain ⟨hl, hw, _⟩ := may_parts hm
  have HW := Lib.hid hw
  clear hT hs hm hw
  go_enter Try.func12, Try.ntmps12
  go_wp2_with fail
  refine (Tells.of (may_any A c n₀ T _ HT.out hn₀ HS.out) (v' := .bool true) (by rw [HM.out])).mono ?_
  rintro _ w1 ⟨rfl, z1⟩
  have Z := Lib.hid z1
  clear z1
  go_wp2_with fail
  go_loopw [4, 12] (fun s i wr => ∃ j : Nat, j ≤ T.length ∧ i = .int .i64 j ∧ s = .int .i64 (smN T j) ∧ Below w.heap.size w wr) (fun _ i _ => T.length - (intOf i).toNat)
  case atStart => exact ⟨0, Nat.zero_le _, rfl, rfl, Z.out⟩
  case round =>
    obtain ⟨j, hj, rfl, rfl, hB⟩ := hrel
    have HB := Lib.hid hB
    clear hB
    obtain ⟨m1, m2⟩ := smN_le HW.out hj
    by_cases hlt : j < T.length
    · obtain ⟨b, off, K, c', rfl, hal, c0, c1, _⟩ := (HT.out.below (HB.out.mono hn₀)).at hlt
      obtain ⟨n1, n2⟩ := wk_at HW.out hlt
      have HE := Lib.hid (smN_succ hlt)
      go_wp2
      go_roundw
      case rel => exact ⟨j + 1, by omega, by go_num, by rw [HE.out], HB.out.alloc HB.out.size _⟩
      case measure => simp [intOf]; omega
    · go_wp2
      go_ret2
      obtain rfl : j = T.length := by omega
      exact ⟨rfl, HB.out⟩
theorem sums_any (A : Option Addr) (c n₀ : Nat) (T : List Tsk) (w : World) (hT : Tk n₀ w A T) (hn₀ : n₀ ≤ w.heap.size) (hs : Sm T) : Tells 12 #[.slice A T.length c] w (.tuple #[.int .i64 (sms T).1, .int .i64 (sms T).2]) := by
  unfold sms
  cases h : may T
  · exact sums_no A c n₀ T w hT hn₀ hs h
  · exact sums_yes A c n₀ T w hT hn₀ hs h
/-- Are there few tasks of few kids? -/
def few (T : List Tsk) : Bool := decide (T.length ≤ 40) && T.all fun x => decide (x.2.length ≤ 40)
end Go.Proofs.Ytajbnpjdhmeeiaa
