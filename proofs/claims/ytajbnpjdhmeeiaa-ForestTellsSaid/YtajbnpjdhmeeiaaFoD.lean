/- Contracts of May and Parent. -/
import Derived.Test.YtajbnpjdhmeeiaaFoC
namespace Go.Proofs.Ytajbnpjdhmeeiaa
open Go.RowKit Go.Deep Go.Shelf
attribute [local go_sem] Oper.semAt_some

theorem may_any (A : Option Addr) (c n₀ : Nat) (T : List Tsk) (w : World) (hT : Tk n₀ w A T) (hn₀ : n₀ ≤ w.heap.size) (hs : Sm T) : Tells 21 #[.slice A T.length c] w (.bool (may T)) := by
  have HT := Lib.hid hT
  have HS := Lib.hid hs
  have hs1 := hs.1
  clear hT hs
  by_cases h : T.length ≤ 30
  · have h' : decide (T.length ≤ 30) = true := decide_eq_true h
    cases h2 : wk T
    · have E := Lib.hid (show may T = false by unfold may; rw [h2]; simp)
      have H2 := Lib.hid h2
      clear h2
      go_enter Try.func21, Try.ntmps21
      go_wp2_with fail
      refine (Tells.of (work_any A c n₀ T _ HT.out hn₀ hs1) (v' := .bool false) (by rw [H2.out])).mono ?_
      rintro _ w1 ⟨rfl, z1⟩
      have Z := Lib.hid z1
      clear z1
      go_wp2
      go_ret
      exact ⟨by rw [E.out]; rfl, Z.out⟩
    · have E := Lib.hid (show may T = kd T by unfold may; rw [h2, h']; simp)
      have H2 := Lib.hid h2
      clear h2
      go_enter Try.func21, Try.ntmps21
      go_wp2_with fail
      refine (Tells.of (work_any A c n₀ T _ HT.out hn₀ hs1) (v' := .bool true) (by rw [H2.out])).mono ?_
      rintro _ w1 ⟨rfl, z1⟩
      have Z := Lib.hid z1
      clear z1
      go_wp2_with fail
      refine (kidsm_any A c n₀ T _ (HT.out.below (Z.out.mono hn₀)) (Nat.le_trans hn₀ Z.out.size) HS.out).mono ?_
      rintro _ w2 ⟨rfl, z2⟩
      have Z2 := Lib.hid z2
      clear z2
      go_wp2
      go_ret
      exact ⟨by rw [E.out]; rfl, Z.out.trans (Z2.out.mono Z.out.size)⟩
  · have E := Lib.hid (show may T = false by unfold may; rw [decide_eq_false h]; simp)
    go_enter Try.func21, Try.ntmps21
    go_wp2
    go_ret
    exact ⟨by rw [E.out]; rfl, Below.refl _ _⟩

theorem pa_none {T : List Tsk} {k : Int} (h : ∀ x ∈ sp T, x.2 ≠ k) : pa T k = -1 := by
  unfold pa
  have : (sp T).find? (fun p => p.2 == k) = none := by
    rw [List.find?_eq_none]
    intro x hx
    simpa using h x hx
  rw [this]
theorem pa_some {T : List Tsk} {k : Int} {pre : List (Nat × Int)} {p : Nat} (hp : pre ++ [(p, k)] <+: sp T) (h : ∀ x ∈ pre, x.2 ≠ k) : pa T k = p := by
  unfold pa
  obtain ⟨r, hr⟩ := hp
  have : (sp T).find? (fun p => p.2 == k) = some (p, k) := by
    rw [← hr, List.find?_append, List.find?_append]
    have h0 : pre.find? (fun p => p.2 == k) = none := by
      rw [List.find?_eq_none]
      intro x hx
      simpa using h x hx
    rw [h0]
    simp
  rw [this]

theorem parent_no (A : Option Addr) (c n₀ : Nat) (T : List Tsk) (k : Int) (w : World) (hT : Tk n₀ w A T) (hn₀ : n₀ ≤ w.heap.size) (hs : Sm T) (hm : may T = false) :
    Tells 23 #[.slice A T.length c, .int .i64 k] w (.int .i64 (-1)) := by
  have HT := Lib.hid hT
  have HS := Lib.hid hs
  have HM := Lib.hid hm
  have hb := ((Below.refl w.heap.size w).alloc (Nat.le_refl _) (.cells #[.int .i64 k] 3)).alloc (by simp) (.cells #[.int .i64 0] 3)
  have b1 := Boxed.new (w.alloc (.cells #[.int .i64 k] 3)) 3 (.int .i64 0)
  have hsz : ((w.alloc (.cells #[.int .i64 k] 3)).alloc (.cells #[.int .i64 0] 3)).heap.size = w.heap.size + 2 := by simp
  rw [World.size_alloc] at b1
  have HB := Lib.hid hb
  have B1 := Lib.hid b1
  have HZ := Lib.hid hsz
  clear hT hs hm hb b1 hsz
  go_enter Try.func23, Try.ntmps23
  go_wp2_with fail
  refine (Tells.of (may_any A c n₀ T _ (HT.out.below (HB.out.mono hn₀)) (Nat.le_trans hn₀ HB.out.size) HS.out) (v' := .bool false) (by rw [HM.out])).mono ?_
  rintro _ w1 ⟨rfl, z1⟩
  have b1 : Boxed w1 (w.heap.size + 1) 3 (.int .i64 0) := (z1.block _ B1.out.lt).trans B1.out
  have k1 := b1.cell
  have f1 := b1.frozen
  have Z := Lib.hid (HB.out.trans (z1.mono HB.out.size))
  have B := Lib.hid b1
  clear z1 b1
  go_wp2
  have hc := (B.out.set (.int .i64 (-1))).cell
  refine bodyPost_ret (v := .int .i64 (-1)) (by simp [results, Try.f23, go_sem, hc]) rfl ⟨rfl, Z.out.setCell (p := ⟨w.heap.size + 1, 0, none⟩) (by simp) _⟩

set_option maxRecDepth 100000 in
set_option maxHeartbeats 2000000 in
theorem parent_in (n : Nat) (hn : 3 ≤ n) (A : Option Addr) (c n₀ : Nat) (T : List Tsk) (k : Int) (w : World) (hT : Tk n₀ w A T) (hn₀ : n₀ ≤ w.heap.size) (hs : Sm T) (hm : may T = true) :
    CallsIn Fence.wide n Try.prog 23 #[.slice A T.length c, .int .i64 k] w fun e w' => e = .returned (.int .i64 (pa T k)) ∧ Below w.heap.size w w' := by
  have h1 : 1 ≤ n := by omega
  have HT := Lib.hid hT
  have HS := Lib.hid hs
  have HM := Lib.hid hm
  have hb := ((Below.refl w.heap.size w).alloc (Nat.le_refl _) (.cells #[.int .i64 k] 3)).alloc (by simp) (.cells #[.int .i64 0] 3)
  have b0 := (Boxed.new w 3 (.int .i64 k)).alloc (.cells #[.int .i64 0] 3)
  have b1 := Boxed.new (w.alloc (.cells #[.int .i64 k] 3)) 3 (.int .i64 0)
  rw [World.size_alloc] at b1
  have HB := Lib.hid hb
  have B0 := Lib.hid b0
  have B1 := Lib.hid b1
  clear hT hs hm hb b1 b0
  refine callsIn_of_wp_marks Try.func23 rfl trivial ?_ rfl
  simp only [Try.ntmps23, List.size_toArray, List.length_cons, List.length_nil, Nat.reduceAdd, Nat.reduceSub, Array.replicate_succ, Array.replicate_zero, List.push_toArray, List.append_toArray, List.nil_append, List.cons_append]
  gi_wp2_with fail
  refine ⟨trivial, ?_⟩
  refine (callsIn_wide.2 (Tells.of (may_any A c n₀ T _ (HT.out.below (HB.out.mono hn₀)) (Nat.le_trans hn₀ HB.out.size) HS.out) (v' := .bool true) (by rw [HM.out]))).mono ?_
  rintro _ w1 ⟨rfl, z1⟩
  have b0 : Boxed w1 w.heap.size 3 (.int .i64 k) := (z1.block _ B0.out.lt).trans B0.out
  have b1 : Boxed w1 (w.heap.size + 1) 3 (.int .i64 0) := (z1.block _ B1.out.lt).trans B1.out
  have hz : w.heap.size + 2 ≤ w1.heap.size := b1.lt
  have Z := Lib.hid (HB.out.trans (z1.mono HB.out.size))
  replace B0 := Lib.hid b0
  replace B1 := Lib.hid b1
  clear z1 b0 b1 HB
  gi_wp2_with (refine ⟨trivial, ?_⟩; gi_at_call 33; refine (spawns_in _ _ _ _ _).mono ?_; rintro e w' ⟨rfl, rfl⟩)
  have b4 := Boxed.new w1 22 (.slice A T.length c)
  have hB0 : Below w.heap.size w (w1.alloc (.cells #[.slice A T.length c] 22)) := Z.out.alloc Z.out.size _
  refine wpIn_rangeFunc_ownF rfl h1 (gf := 35) (lb := #[.pointer (some ⟨w1.heap.size, 0, none⟩)]) rfl trivial (enters_of Try.func35 (by kernel_rfl) rfl)
    (spawns_stops (n - 1) (by omega) w1.heap.size n₀ A c T HS.out _ (by simp) (by simp; omega) b4.cell (HT.out.below (hB0.mono hn₀))) belowK_t (belowK_b (by simp; omega)) (Below.refl _ _) (fun _ => rfl)
    (fun pre W => ((∀ x ∈ pre, x.2 ≠ k) ∧ Boxed W w.heap.size 3 (.int .i64 k) ∧ Boxed W (w.heap.size + 1) 3 (.int .i64 0)) ∧ Below w.heap.size w W)
    (fun c pre W => (c = .ret ∧ ∃ p : Nat, (∃ pre', pre = pre' ++ [(p, k)] ∧ ∀ x ∈ pre', x.2 ≠ k) ∧ Boxed W (w.heap.size + 1) 3 (.int .i64 p)) ∧ Below w.heap.size w W)
    (OwnFrom.and (Own.from (fun s A B row hs hg hr => ⟨hs.1, boxed_kept hs.2.1 hg hr, boxed_kept hs.2.2 hg hr⟩) _) (ownFrom_below (Nat.le_refl _) (by simp; omega)))
    (fun c => OwnFrom.and (Own.from (fun s A B row hs hg hr => ⟨hs.1, hs.2.choose, hs.2.choose_spec.1, boxed_kept hs.2.choose_spec.2 hg hr⟩) _) (ownFrom_below (Nat.le_refl _) (by simp; omega)))
    ⟨⟨by simp, B0.out.alloc _, B1.out.alloc _⟩, hB0⟩
    (fun x => { tmps := #[.slice A T.length c, .int .i64 k, undef, .pointer (some ⟨w.heap.size, 0, none⟩), .pointer (some ⟨w.heap.size + 1, 0, none⟩), .int .i64 x.1, .int .i64 x.2, .slice A T.length c, .bool true, .bool false, .slice A T.length c,
      .func (.func 35) #[] #[.pointer (some ⟨w1.heap.size, 0, none⟩)], .int .i64 x.1, .int .i64 x.2, undef, undef, undef, undef], defers := [] }) ?assign ?body ?done ?stop
  case assign =>
    intro l x W K hK
    gi_wp2
    exact hK
  case body =>
    rintro l pre ⟨p, q⟩ W ⟨⟨hne, c0, c1⟩, hB⟩ _
    have k0 := c0.cell
    have k1 := c1.cell
    have z1 := c1.frozen
    have HN := Lib.hid hne
    have C0 := Lib.hid c0
    have C1 := Lib.hid c1
    have HB := Lib.hid hB
    clear hne c0 c1 hB
    by_cases hq : q = k
    · subst hq
      gi_wp2
      exact ⟨KeepsOthers.setCell _ _ _, ⟨rfl, p, ⟨pre, rfl, HN.out⟩, C1.out.set _⟩, HB.out.setCell (p := ⟨w.heap.size + 1, 0, none⟩) (by simp) _⟩
    · have hq' : (q == k) = false := by simpa using hq
      have HQ := Lib.hid hq
      clear hq
      gi_wp2
      refine ⟨KeepsOthers.refl _, Below.refl _ _, ⟨?_, C0.out, C1.out⟩, HB.out⟩
      intro x hx
      simp only [List.mem_append, List.mem_singleton] at hx
      rcases hx with hx | rfl
      · exact HN.out x hx
      · exact HQ.out
  case done =>
    rintro D ys W hD rfl ⟨⟨hne, c0, c1⟩, hB⟩ hK
    have k1 := c1.cell
    have z1 := c1.frozen
    have HN := Lib.hid (pa_none hne)
    have C1 := Lib.hid c1
    clear hne c0 c1
    gi_wp2
    have hK' := (KeepsOthers.setCell W ⟨w.heap.size + 1, 0, none⟩ (.int .i64 (-1))).same D _ hK rfl
    refine ⟨by simp, .inl ⟨_, _, rfl, run_takeDeferred hK', ?_⟩⟩
    have hc5 := cell_kept (C1.out.set (.int .i64 (-1))).cell (grownBy_putObj' _ D (.deferred none)) (fun r e => by cases e; exact ⟨_, hK', rfl⟩)
    refine ⟨.int .i64 (-1), ?_, by rw [HN.out], (hB.setCell (p := ⟨w.heap.size + 1, 0, none⟩) (by simp) _).trans (belowK_b (w := w) (Nat.le_refl _) _ D _ _ (by simp at hD; omega) hK' rfl rfl)⟩
    simp [results, Try.f23, go_sem, hc5]
  case stop =>
    rintro D c pre W hD hp ⟨⟨rfl, p, ⟨pre', rfl, hne⟩, c1⟩, hB⟩ hK
    have HN := Lib.hid (pa_some hp hne)
    clear hne hp
    gi_wp2
    refine ⟨by simp, .inl ⟨_, _, rfl, run_takeDeferred hK, ?_⟩⟩
    have hc5 := cell_kept c1.cell (grownBy_putObj' _ D (.deferred none)) (fun r e => by cases e; exact ⟨_, hK, rfl⟩)
    refine ⟨.int .i64 p, ?_, by rw [HN.out], hB.trans (belowK_b (w := w) (Nat.le_refl _) W D _ _ (by simp at hD; omega) hK rfl rfl)⟩
    simp [results, Try.f23, go_sem, hc5]
theorem parent_any (A : Option Addr) (c n₀ : Nat) (T : List Tsk) (k : Int) (w : World) (hT : Tk n₀ w A T) (hn₀ : n₀ ≤ w.heap.size) (hs : Sm T) : Tells 23 #[.slice A T.length c, .int .i64 k] w (.int .i64 (par T k)) := by
  unfold par
  cases h : may T
  · exact parent_no A c n₀ T k w hT hn₀ hs h
  · exact (callsIn_wide (n := 3)).1 (parent_in 3 (Nat.le_refl _) A c n₀ T k w hT hn₀ hs h)
end Go.Proofs.Ytajbnpjdhmeeiaa
