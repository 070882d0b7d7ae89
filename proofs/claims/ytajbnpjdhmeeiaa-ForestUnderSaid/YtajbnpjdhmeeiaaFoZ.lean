/- Contracts of the document's own Same, of the chapter's tasks, and of awake. -/
import Derived.Test.YtajbnpjdhmeeiaaFoY
namespace Go.Proofs.Ytajbnpjdhmeeiaa
open Go.RowKit Go.Deep

theorem rsame_len (A B : Option Addr) (n c m d : Nat) (w : World) (hne : n ≠ m) : Tells 15 #[.slice A n c, .slice B m d] w (.bool false) := by
  go_enter Try.func15, Try.ntmps15
  go_wp2
  go_ret
  exact ⟨rfl, Below.refl _ _⟩
set_option maxRecDepth 100000 in
set_option maxHeartbeats 2000000 in
theorem rsame_eq (A B : Option Addr) (n c d n₀ : Nat) (T V : List Tsk) (w : World) (ha : Tk n₀ w A T) (hb : Tk n₀ w B V) (hn₀ : n₀ ≤ w.heap.size) (hn : T.length = n) (hm : V.length = n) (hs : Sm T) :
    Tells 15 #[.slice A n c, .slice B n d] w (.bool (decide (T = V))) := by
  have HA := Lib.hid ha
  have HB := Lib.hid hb
  have HN := Lib.hid hn
  have HM := Lib.hid hm
  have HS := Lib.hid hs
  have hs1 : n ≤ 1000 := by rw [← hn]; exact hs.1
  clear ha hb hn hm hs
  go_enter Try.func15, Try.ntmps15
  go_wp2
  go_loopw [5] (fun i wr => ∃ j : Nat, j ≤ n ∧ i = .int .i64 j ∧ T.take j = V.take j ∧ Below w.heap.size w wr) (fun i _ => n - (intOf i).toNat)
  case atStart => exact ⟨0, Nat.zero_le _, rfl, by simp, Below.refl _ _⟩
  case round =>
    obtain ⟨j, hj, rfl, heq, hw⟩ := hrel
    have HE := Lib.hid heq
    have HW := Lib.hid hw
    clear heq hw
    by_cases hlt : j < n
    · have h1 : j < T.length := by rw [HN.out]; exact hlt
      have h2 : j < V.length := by rw [HM.out]; exact hlt
      obtain ⟨b1, o1, K1, c1, rfl, l1, x1, y1, r1⟩ := (HA.out.below (HW.out.mono hn₀)).at h1
      obtain ⟨b2, o2, K2, c2, rfl, l2, x2, y2, r2⟩ := (HB.out.below (HW.out.mono hn₀)).at h2
      have hk := HS.out.at h1
      have R1 := Lib.hid r1
      have R2 := Lib.hid r2
      clear r1 r2
      have C := Lib.hid (fun q : Nat => ints_q K1 K2 c1 c2 n₀ T[j].2 V[j].2 (wr.drewN q) (R1.out.below ((below_drewN wr q).mono (by have := HW.out.size; omega))) (R2.out.below ((below_drewN wr q).mono (by have := HW.out.size; omega))) hk)
      by_cases hxy : T[j].2 = V[j].2
      · have C2 := Lib.hid (fun q => Quiets.of (C.out q) (v' := .bool true) (by rw [decide_eq_true hxy]))
        have E := Lib.hid hxy
        clear hxy C
        by_cases hv : T[j].1 = V[j].1
        · have hv' : (T[j].1 != V[j].1) = false := by simp [hv]
          have HV := Lib.hid hv
          clear hv
          go_wp2_with fail
          go_quiet ((go_at_call 16; exact Calls.quiet_of (C2.out _)))
          go_wp2_with fail
          go_quiet (fail)
          go_wp2
          go_roundw
          case rel => exact ⟨j + 1, by omega, by go_num, take_more h1 h2 HE.out (Prod.ext HV.out E.out), HW.out.trans ⟨rfl, rfl, rfl, Nat.le_refl _, fun _ _ => rfl⟩⟩
          case measure => simp [intOf]; omega
        · have hv' : (T[j].1 != V[j].1) = true := by simp [hv]
          have HV := Lib.hid hv
          clear hv
          go_wp2_with fail
          go_quiet ((go_at_call 16; exact Calls.quiet_of (C2.out _)))
          go_wp2_with fail
          go_quiet (fail)
          go_wp2
          go_ret
          exact ⟨by rw [differ h1 h2 (fun e => HV.out (by rw [e]))]; rfl, HW.out.trans ⟨rfl, rfl, rfl, Nat.le_refl _, fun _ _ => rfl⟩⟩
      · have C2 := Lib.hid (fun q => Quiets.of (C.out q) (v' := .bool false) (by rw [decide_eq_false hxy]))
        have E := Lib.hid hxy
        clear hxy C
        go_wp2_with fail
        go_quiet ((go_at_call 16; exact Calls.quiet_of (C2.out _)))
        go_wp2_with fail
        go_quiet (fail)
        go_wp2
        go_ret
        exact ⟨by rw [differ h1 h2 (fun e => E.out (by rw [e]))]; rfl, HW.out.trans ⟨rfl, rfl, rfl, Nat.le_refl _, fun _ _ => rfl⟩⟩
    · go_wp2
      go_ret
      exact ⟨by rw [agree HN.out HM.out hj hlt HE.out]; rfl, HW.out⟩
theorem rsame_any (A B : Option Addr) (c d n₀ : Nat) (T V : List Tsk) (w : World) (ha : Tk n₀ w A T) (hb : Tk n₀ w B V) (hn₀ : n₀ ≤ w.heap.size) (hs : Sm T) : Tells 15 #[.slice A T.length c, .slice B V.length d] w (.bool (decide (T = V))) := by
  by_cases h : V.length = T.length
  · rw [h]
    exact rsame_eq A B T.length c d n₀ T V w ha hb hn₀ rfl h hs
  · have e : decide (T = V) = false := decide_eq_false (by rintro rfl; exact h rfl)
    rw [e]
    exact rsame_len A B _ c _ d w (fun e => h e.symm)
/-- The chapter's tasks. -/
def five : List Tsk := [(2, [1, 3]), (1, [2]), (3, []), (0, []), (1, [])]
def RetT (w : World) (T : List Tsk) (e : Ending) (w' : World) : Prop := ∃ A c, e = .returned (.slice A T.length c) ∧ Tk w'.heap.size w' A T ∧ Below w.heap.size w w'
theorem five_any (w : World) : Calls Try.prog 25 #[] w (RetT w five) := by
  go_enter Try.func25, Try.ntmps25
  go_wp2
  go_ret
  refine ⟨some ⟨w.heap.size + 1 + 1, 0, none⟩, 5, rfl, fun _ => ⟨_, _, rfl, by simp, ?_⟩, ((((Below.refl w.heap.size w).alloc (Nat.le_refl _) _).alloc (by simp) _).alloc (by simp; omega) _)⟩
  intro i x hx
  have hi := (List.getElem?_eq_some_iff.1 hx).1
  simp only [five, List.length_cons, List.length_nil] at hi
  have c0 : ∀ (k : Nat) (v : Value), (#[Value.int .i64 2, .slice (some ⟨w.heap.size, 0, none⟩) 2 2, .int .i64 1, .slice (some ⟨w.heap.size + 1, 0, none⟩) 1 1, .int .i64 3, .slice none 0 0, .int .i64 0, .slice none 0 0, .int .i64 1, .slice none 0 0])[k]? = some v →
      (((w.alloc (.cells #[.int .i64 1, .int .i64 3] 3)).alloc (.cells #[.int .i64 2] 3)).alloc (.cells #[Value.int .i64 2, .slice (some ⟨w.heap.size, 0, none⟩) 2 2, .int .i64 1, .slice (some ⟨w.heap.size + 1, 0, none⟩) 1 1, .int .i64 3, .slice none 0 0, .int .i64 0, .slice none 0 0, .int .i64 1, .slice none 0 0] 36)).cell? ⟨w.heap.size + 1 + 1, k, none⟩ = some v := by
    intro k v hv
    have := World.alloc_heap_new ((w.alloc (.cells #[.int .i64 1, .int .i64 3] 3)).alloc (.cells #[.int .i64 2] 3)) (.cells #[Value.int .i64 2, .slice (some ⟨w.heap.size, 0, none⟩) 2 2, .int .i64 1, .slice (some ⟨w.heap.size + 1, 0, none⟩) 1 1, .int .i64 3, .slice none 0 0, .int .i64 0, .slice none 0 0, .int .i64 1, .slice none 0 0] 36)
    simp only [World.size_alloc] at this
    simp only [World.cell?, this]
    exact hv
  have r0 : RdB (w.heap.size + 3) (((w.alloc (.cells #[.int .i64 1, .int .i64 3] 3)).alloc (.cells #[.int .i64 2] 3)).alloc (.cells #[Value.int .i64 2, .slice (some ⟨w.heap.size, 0, none⟩) 2 2, .int .i64 1, .slice (some ⟨w.heap.size + 1, 0, none⟩) 1 1, .int .i64 3, .slice none 0 0, .int .i64 0, .slice none 0 0, .int .i64 1, .slice none 0 0] 36)) (some ⟨w.heap.size, 0, none⟩) [1, 3] :=
    (((show Bk (w.alloc (.cells #[.int .i64 1, .int .i64 3] 3)) w.heap.size [1, 3] from World.alloc_heap_new w _).alloc _).alloc _).rd.rdB.mono (by simp)
  have r1 : RdB (w.heap.size + 3) (((w.alloc (.cells #[.int .i64 1, .int .i64 3] 3)).alloc (.cells #[.int .i64 2] 3)).alloc (.cells #[Value.int .i64 2, .slice (some ⟨w.heap.size, 0, none⟩) 2 2, .int .i64 1, .slice (some ⟨w.heap.size + 1, 0, none⟩) 1 1, .int .i64 3, .slice none 0 0, .int .i64 0, .slice none 0 0, .int .i64 1, .slice none 0 0] 36)) (some ⟨w.heap.size + 1, 0, none⟩) [2] := by
    have h : Bk ((w.alloc (.cells #[.int .i64 1, .int .i64 3] 3)).alloc (.cells #[.int .i64 2] 3)) (w.heap.size + 1) [2] := by
      have := World.alloc_heap_new (w.alloc (.cells #[.int .i64 1, .int .i64 3] 3)) (.cells #[.int .i64 2] 3)
      rw [World.size_alloc] at this
      exact this
    exact (h.alloc _).rd.rdB.mono (by simp)
  have rn : ∀ m W, RdB m W none [] := fun _ _ h => by simp at h
  have hz : ∀ o1 o2 o3 : Obj, (((w.alloc o1).alloc o2).alloc o3).heap.size = w.heap.size + 3 := by simp
  rw [hz]
  match i, hi, hx with
  | 0, _, hx => cases hx; exact ⟨c0 _ _ rfl, _, _, c0 _ _ rfl, r0⟩
  | 1, _, hx => cases hx; exact ⟨c0 _ _ rfl, _, _, c0 _ _ rfl, r1⟩
  | 2, _, hx => cases hx; exact ⟨c0 _ _ rfl, _, _, c0 _ _ rfl, rn _ _⟩
  | 3, _, hx => cases hx; exact ⟨c0 _ _ rfl, _, _, c0 _ _ rfl, rn _ _⟩
  | 4, _, hx => cases hx; exact ⟨c0 _ _ rfl, _, _, c0 _ _ rfl, rn _ _⟩
  | i + 5, hi, _ => omega
theorem five_sm : Sm five := ⟨by decide, by decide⟩
theorem five_may : may five = true := by decide +kernel
theorem five_und : und five 0 = [0, 1, 2, 3] := by decide +kernel
theorem five_rts : rts five = [0, 4] := by decide +kernel
theorem five_sms : sms five = (5, 7) := by decide +kernel
theorem five_par : par five 2 = 1 := by decide +kernel
set_option maxRecDepth 100000 in
set_option maxHeartbeats 2000000 in
theorem awake_any (w : World) : Tells 10 #[] w (.bool true) := by
  go_enter Try.func10, Try.ntmps10
  go_wp2_with fail
  refine (five_any _).mono ?_
  rintro _ w1 ⟨A, c, rfl, hT, z1⟩
  have HT := Lib.hid hT
  have Z := Lib.hid z1
  have h5 : five.length = 5 := rfl
  rw [h5]
  clear hT z1 h5
  go_wp2_with fail
  have C := under_any A c w1.heap.size five 0 w1 HT.out (Nat.le_refl _) five_sm
  rw [five_und] at C
  refine C.mono ?_
  rintro _ w2 ⟨R, d, rfl, hr, z2⟩
  have HR := Lib.hid hr
  have HT2 := Lib.hid (HT.out.below z2)
  have hz2 := z2.size
  replace Z := Lib.hid (Z.out.trans (z2.mono Z.out.size))
  clear C hr z2
  go_wp2_with fail
  have C := roots_any A c w1.heap.size five w2 HT2.out hz2 five_sm
  rw [five_rts] at C
  refine C.mono ?_
  rintro _ w3 ⟨Q, e, rfl, hq, z3⟩
  have HQ := Lib.hid hq
  have HT3 := Lib.hid (HT2.out.below (z3.mono hz2))
  have HR3 := Lib.hid ((HR.out.below z3).mono z3.size)
  have hz3 := Nat.le_trans hz2 z3.size
  replace Z := Lib.hid (Z.out.trans (z3.mono Z.out.size))
  clear C hq z3 HR HT2
  go_wp2_with fail
  refine (Tells.of (sums_any A c w1.heap.size five w3 HT3.out hz3 five_sm) (v' := .tuple #[.int .i64 5, .int .i64 7]) (by rw [five_sms])).mono ?_
  rintro _ w4 ⟨rfl, z4⟩
  have HT4 := Lib.hid (HT3.out.below (z4.mono hz3))
  have HR4 := Lib.hid ((HR3.out.below z4).mono z4.size)
  have HQ4 := Lib.hid ((HQ.out.below z4).mono z4.size)
  have hz4 := Nat.le_trans hz3 z4.size
  replace Z := Lib.hid (Z.out.trans (z4.mono Z.out.size))
  clear z4 HT3 HR3 HQ
  go_wp2_with fail
  refine (Tells.of (may_any A c w1.heap.size five w4 HT4.out hz4 five_sm) (v' := .bool true) (by rw [five_may])).mono ?_
  rintro _ w5 ⟨rfl, z5⟩
  have HT5 := Lib.hid (HT4.out.below (z5.mono hz4))
  obtain ⟨b1, o1, rfl, _, hl⟩ := (HR4.out.below z5) (by decide)
  obtain ⟨b2, o2, rfl, _, hq⟩ := (HQ4.out.below z5) (by decide)
  have l2 := hl 2 2 rfl
  have l3 := hl 3 3 rfl
  have q1 := hq 1 4 rfl
  have hz5 := Nat.le_trans hz4 z5.size
  replace Z := Lib.hid (Z.out.trans (z5.mono Z.out.size))
  clear z5 HT4 HR4 HQ4 hl hq
  go_wp2_with fail
  refine (Tells.of (parent_any A c w1.heap.size five 2 w5 HT5.out hz5 five_sm) (v' := .int .i64 1) (by rw [five_par])).mono ?_
  rintro _ w6 ⟨rfl, z6⟩
  have HT6 := Lib.hid (HT5.out.below (z6.mono hz5))
  have hz6 := Nat.le_trans hz5 z6.size
  replace Z := Lib.hid (Z.out.trans (z6.mono Z.out.size))
  clear z6 HT5 l2 l3 q1
  go_wp2_with fail
  refine (Tells.of (same_any A A c c w1.heap.size five five w6 HT6.out HT6.out hz6 five_sm) (v' := .bool true) (by rw [decide_eq_true rfl])).mono ?_
  rintro _ w7 ⟨rfl, z7⟩
  replace Z := Lib.hid (Z.out.trans (z7.mono Z.out.size))
  clear z7
  go_wp2
  go_ret
  exact ⟨rfl, Z.out⟩
end Go.Proofs.Ytajbnpjdhmeeiaa
