/- Contract of Under. -/
import Derived.Test.YtajbnpjdhmeeiaaFoT
namespace Go.Proofs.Ytajbnpjdhmeeiaa
open Go.RowKit Go.Deep Go.Shelf
attribute [local go_sem] Oper.semAt_some

/-- What is under r. -/
def und (T : List Tsk) (r : Int) : List Int := if may T = true ∧ 0 ≤ r ∧ r < T.length then unf T T.length r.toNat else []

/-- One number more: what runs, what it leaves, and where. -/
theorem app_one {w : World} {base : Nat} {A : Option Addr} {n c : Nat} {l : List Int} (ho : Own w base A n c l) (x : Int) {ad : Addr} (hx : w.cell? ad = some (.int .i64 x)) (hs : n + 1 ≤ 1000000) (hb : base ≤ w.heap.size) :
    ∃ A' c' w', (Builtin.append_ #[29, 29] 29 #[.slice A n c, .slice (some ad) 1 1]).run Try.prog w = .ok (.slice A' (n + 1) c') w' ∧ Own w' base A' (n + 1) c' (l ++ [x]) ∧ w.grownBy w' (Value.slice A n c).ownBlock ∧
      ((Value.slice A' (n + 1) c').ownBlock = (Value.slice A n c).ownBlock ∨ (Value.slice A' (n + 1) c').ownBlock = some w.heap.size) := by
  obtain ⟨i0, hi0, hz⟩ := Option.map_eq_some_iff.1 Try.info3
  simp only [Prod.mk.injEq] at hz
  obtain ⟨hz0, hz1, hz2⟩ := hz
  obtain ⟨v', w', hrun, h2, h3, _, h5⟩ := run_append_own_at (P := Try.prog) w base 29 29 3 i0 (.int .i64 0) 1 8 Try.underlying29 hi0 hz0 hz1 hz2 rfl (by omega) _ n _ ho ad 1 1 [.int .i64 x] rfl
    (fun j u hu => by
      obtain ⟨rfl, rfl⟩ : j = 0 ∧ Value.int .i64 x = u := by
        cases j with
        | zero => simpa using hu
        | succ j => simp at hu
      have : ad.add 0 = ad := by simp [Addr.add]
      rw [this]; exact hx) (fun u hu => by simp at hu; subst hu; rfl) (by simp only [maxLen]; omega) (by omega) hb
  obtain ⟨A', c', rfl, h6⟩ : ∃ A' c', v' = .slice A' (n + 1) c' ∧ Own w' base A' (n + 1) c' (l ++ [x]) := by
    rcases h2.2 with ⟨rfl, hx⟩ | ⟨g, cap, cur, rfl, hr⟩
    · simp at hx
    · exact ⟨_, cap, rfl, by unfold Own; rw [List.map_append]; exact h2⟩
  exact ⟨A', c', w', hrun, h6, h3, h5⟩
/-- An append whose run is known, inside a fence. -/
theorem wpListIn_append_run {F : Fence} {n : Nat} {P : Program} {w : World} {ops : Array Oper} {rest : List Oper} {o : Oper} {a : Act} {Q : Exit → Act → World → Prop} {t u : TypeId} {v xv v' : Value} {w' : World}
    (hrun : (Builtin.append_ #[t, t] u #[v, xv]).run P w = .ok v' w')
    (ho : ∃ s x, o.op = .call { callee := .builtin .append, args := #[s, x], argTypes := #[t, t] } ∧ a.eval s = v ∧ a.eval x = xv) (hu : o.type = u) (hg : o.guard = none)
    (h : wpListIn F n P ops Q rest (a.put o.dst v') w') : wpListIn F n P ops Q (o :: rest) a w := by
  obtain ⟨s, x, hop, hs, hx⟩ := ho
  subst hu
  refine wpListIn_plain hg fun K hK' => ?_
  unfold Oper.wpIn
  refine ⟨?_, ?_⟩
  · simp [Oper.about, hop, resolve, Target.leads, Sem.run_pure]
  · rw [Oper.semAt_plain F _ _ (by rw [hop]; intro c hc'; cases hc')]
    simp [execOp, hop, resolve, invoke, builtin, hs, hx, hrun, Result.andThen]
    exact hK' _ _ h

/-- The loop's own blocks: the box b, and the row of the slice in it. -/
def Row5 (b : Nat) (v : Value) (k : Nat) : Prop := k = b ∨ v.ownBlock = some k
def Coll (n₁ b : Nat) (pre : List Int) (S : Nat → Prop) (W : World) : Prop := ∃ R d, Boxed W b 29 (.slice R pre.length d) ∧ Own W n₁ R pre.length d pre ∧ S = Row5 b (.slice R pre.length d)
theorem Own.kept {w w' : World} {base : Nat} {A : Option Addr} {n c : Nat} {l : List Int} (h : Own w base A n c l) (hk : ∀ k, (Value.slice A n c).ownBlock = some k → w'.heap[k]? = w.heap[k]?) : Own w' base A n c l := by
  refine ⟨h.1, ?_⟩
  rcases h.2 with h2 | ⟨g, cap, cur, hv, hbg, hg, hr⟩
  · exact .inl h2
  · exact .inr ⟨g, cap, cur, hv, hbg, (hk g (by rw [hv]; rfl)).trans hg, hr⟩
theorem coll_good (n₀ n₁ b : Nat) : Good n₀ (Coll n₁ b) := by
  refine ⟨?_, ?_⟩
  · rintro pre S W ⟨R, d, hb, ho, rfl⟩ k (h | h)
    · rw [h]; exact hb.lt
    · exact (World.ownsRow.lt ho k h).2
  · rintro pre S W W' ⟨R, d, hb, ho, rfl⟩ he _
    exact ⟨R, d, (he b (.inl rfl)).trans hb, ho.kept (fun k hk => he k (.inr hk)), rfl⟩

theorem under_no (A : Option Addr) (c n₀ : Nat) (T : List Tsk) (r : Int) (w : World) (hT : Tk n₀ w A T) (hn₀ : n₀ ≤ w.heap.size) (hs : Sm T) (h : ¬ (may T = true ∧ 0 ≤ r ∧ r < T.length)) : Calls Try.prog 19 #[.slice A T.length c, .int .i64 r] w (RetL w []) := by
  have HT := Lib.hid hT
  have HS := Lib.hid hs
  have hs1 := hs.1
  clear hT hs
  cases hm : may T
  · have HM := Lib.hid hm
    clear hm h
    go_enter Try.func19, Try.ntmps19
    go_wp2_with fail
    refine (Tells.of (may_any A c n₀ T _ HT.out hn₀ HS.out) (v' := .bool false) (by rw [HM.out])).mono ?_
    rintro _ w1 ⟨rfl, z1⟩
    have Z := Lib.hid z1
    clear z1
    go_wp2
    go_ret
    exact ⟨none, 0, rfl, fun h => by simp at h, Z.out⟩
  · have HM := Lib.hid hm
    have h' : r < 0 ∨ (T.length : Int) ≤ r := by
      by_cases h1 : 0 ≤ r
      · by_cases h2 : r < T.length
        · exact absurd ⟨hm, h1, h2⟩ h
        · exact .inr (by omega)
      · exact .inl (by omega)
    clear hm h
    rcases h' with h1 | h1
    · go_enter Try.func19, Try.ntmps19
      go_wp2_with fail
      refine (Tells.of (may_any A c n₀ T _ HT.out hn₀ HS.out) (v' := .bool true) (by rw [HM.out])).mono ?_
      rintro _ w1 ⟨rfl, z1⟩
      have Z := Lib.hid z1
      clear z1
      go_wp2
      go_ret
      exact ⟨none, 0, rfl, fun h => by simp at h, Z.out⟩
    · have h2 : ¬ r < 0 := by omega
      go_enter Try.func19, Try.ntmps19
      go_wp2_with fail
      refine (Tells.of (may_any A c n₀ T _ HT.out hn₀ HS.out) (v' := .bool true) (by rw [HM.out])).mono ?_
      rintro _ w1 ⟨rfl, z1⟩
      have Z := Lib.hid z1
      clear z1
      go_wp2
      go_ret
      exact ⟨none, 0, rfl, fun h => by simp at h, Z.out⟩

set_option maxRecDepth 100000 in
set_option maxHeartbeats 4000000 in
theorem under_in (n : Nat) (A : Option Addr) (c n₀ : Nat) (T : List Tsk) (r : Nat) (w : World) (hT : Tk n₀ w A T) (hn₀ : n₀ ≤ w.heap.size) (hs : Sm T) (hm : may T = true) (hr : r < T.length) (hN : (unf T T.length r).length ≤ 100000) :
    CallsIn Fence.wide n Try.prog 19 #[.slice A T.length c, .int .i64 r] w (RetL w (unf T T.length r)) := by
  have HT := Lib.hid hT
  have HS := Lib.hid hs
  have HM := Lib.hid hm
  have hs1 := hs.1
  have hr0 : decide ((r : Int) < 0) = false := decide_eq_false (by omega)
  have hr1 : decide (T.length ≤ r) = false := decide_eq_false (by omega)
  clear hT hs hm
  refine callsIn_of_wp_marks Try.func19 rfl trivial ?_ rfl
  simp only [Try.ntmps19, List.size_toArray, List.length_cons, List.length_nil, Nat.reduceAdd, Nat.reduceSub, Array.replicate_succ, Array.replicate_zero, List.push_toArray, List.append_toArray, List.nil_append, List.cons_append]
  gi_wp2_with fail
  refine ⟨trivial, (fun h => by cases h), ?_⟩
  refine (callsIn_wide.2 (Tells.of (may_any A c n₀ T _ HT.out hn₀ HS.out) (v' := .bool true) (by rw [HM.out]))).mono ?_
  rintro _ w1 ⟨rfl, z1⟩
  have Z := Lib.hid z1
  clear z1
  gi_wp2_with (refine ⟨trivial, (fun h => by cases h), ?_⟩; gi_at_call 26; refine (within_in _ _ _ _ _ _).mono ?_; rintro e w' ⟨rfl, rfl⟩)
  have hz1 := Z.out.size
  have b5 := ((Boxed.new w1 29 (.slice none 0 0)).alloc (.cells #[.slice A T.length c] 22)).alloc (.cells #[.int .i64 (r : Int)] 3)
  have bt := (Boxed.new (w1.alloc (.cells #[.slice none 0 0] 29)) 22 (.slice A T.length c)).alloc (.cells #[.int .i64 (r : Int)] 3)
  have br := Boxed.new ((w1.alloc (.cells #[.slice none 0 0] 29)).alloc (.cells #[.slice A T.length c] 22)) 3 (.int .i64 r)
  have hB := ((Z.out.alloc hz1 (.cells #[.slice none 0 0] 29)).alloc (by simp; omega) (.cells #[.slice A T.length c] 22)).alloc (by simp; omega) (.cells #[.int .i64 (r : Int)] 3)
  have hz3 : (((w1.alloc (.cells #[.slice none 0 0] 29)).alloc (.cells #[.slice A T.length c] 22)).alloc (.cells #[.int .i64 (r : Int)] 3)).heap.size = w1.heap.size + 3 := by simp
  simp only [World.size_alloc] at bt br
  generalize (((w1.alloc (.cells #[.slice none 0 0] 29)).alloc (.cells #[.slice A T.length c] 22)).alloc (.cells #[.int .i64 (r : Int)] 3)) = W3 at *
  refine range_within (n₀ := w.heap.size) (N := (unf T T.length r).length) (gf := 34) (lb := #[.pointer (some ⟨w1.heap.size + 1 + 1, 0, none⟩), .pointer (some ⟨w1.heap.size + 1, 0, none⟩)]) (xs := unf T T.length r) (S0 := Row5 w1.heap.size (.slice none 0 0)) rfl (enters_of Try.func34 (by kernel_rfl) rfl) (by omega)
    ?seq (Coll w.heap.size w1.heap.size) (coll_good _ _ _) ⟨none, 0, b5, World.ownsRow_nil _ _ _ _, rfl⟩
    (fun x => { tmps := #[.slice A T.length c, .int .i64 r, undef, undef, .slice none 0 0, .pointer (some ⟨w1.heap.size, 0, none⟩), .int .i64 x, .slice A T.length c, .bool true, .bool false, .bool false, .int .i64 r, .bool false, .bool false, .bool false, .int .i64 r,
      .slice A T.length c, .int .i64 T.length, .bool false, .bool false, .slice A T.length c, .int .i64 r, .func (.func 34) #[] #[.pointer (some ⟨w1.heap.size + 1 + 1, 0, none⟩), .pointer (some ⟨w1.heap.size + 1, 0, none⟩)], .int .i64 x, undef, undef, undef, undef, undef], defers := [] }) ?assign ?body ?done
  case seq =>
    intro l' J' W' S' hG' hY' hJ' hB' hS'
    have hno : ∀ k, k < W3.heap.size → w1.heap.size < k → ¬ S' k := fun k hk hk' h => by
      rcases hS' k hk h with h | h
      · omega
      · cases h
    exact within1_in w.heap.size A c T HS.out (may_parts HM.out).2.2 T.length r hr (by omega) _ l' _ _ _ J' S' W' hG' hY' (Nat.le_refl _) hJ' ((hB'.block _ br.lt).trans br) ((hB'.block _ bt.lt).trans bt) (hno _ (by omega) (by omega)) (hno _ (by omega) (by omega))
      ((HT.out.mono hn₀).below (hB.trans (hB'.mono (by omega)))) (by have := hB'.size; omega)
  case assign =>
    intro l' m x W' K hK
    gi_wp2
    exact hK
  case body =>
    rintro l' m pre x S₁ W' ⟨R, d, hb, ho, rfl⟩ hlen
    have hzb : w.heap.size ≤ W'.heap.size := by have := hb.lt; omega
    obtain ⟨R', d', w2, hrun, hown, hg, hblk⟩ := app_one (ho.alloc (.cells #[.int .i64 x] 3)) x (Boxed.new W' 3 (.int .i64 x)).cell (by omega) (by simp; omega)
    have hb1 := (hb.alloc (.cells #[.int .i64 x] 3)).kept hg (hb.not_row (by decide) ho)
    have hne := hb1.not_row (by decide) hown
    have k1 := hb.cell
    have k2 := hb1.cell
    have f2 := hb1.frozen
    have RUN := Lib.hid hrun
    have HB := Lib.hid hb
    have HB1 := Lib.hid hb1
    have HO := Lib.hid ho
    have OWN := Lib.hid hown
    have HG := Lib.hid hg
    have BLK := Lib.hid hblk
    have NE := Lib.hid hne
    clear hrun hb hb1 ho hown hg hblk hne
    gi_wp2_with (gi_at_builtin; (with_reducible refine wpListIn_append_run RUN.out ?_ ?_ ?_ ?_); exact ⟨_, _, rfl, rfl, rfl⟩; rfl; rfl)
    have hl : (pre ++ [x]).length = pre.length + 1 := by simp
    refine ⟨Row5 w1.heap.size (.slice R' (pre.length + 1) d'), ⟨R', d', by rw [hl]; exact HB1.out.set _, by rw [hl]; exact OWN.out.kept (fun k hk => Below.heap_setCell _ _ _ k (fun e => NE.out (by rw [hk, e]))), by rw [hl]⟩, ?_, fun k hk hS => ?_, fun k hk => ?_⟩
    · refine (((Below.refl w.heap.size W').alloc hzb _).grown HG.out (by simp; omega) (fun k e => (World.ownsRow.lt HO.out k e).1)).setCell (p := ⟨w1.heap.size, 0, none⟩) hz1 _
    · refine (Below.heap_setCell _ _ _ k (fun e => hS (.inl e))).trans ((HG.out.block k (by simp; omega) (fun e => hS (.inr e.symm))).trans (Below.heap_alloc W' _ k hk))
    · rcases hk with h | h
      · exact .inl (.inl h)
      · rcases BLK.out with e | e
        · exact .inl (.inr (e ▸ h))
        · rw [h] at e
          injection e with e
          rw [e]
          exact .inr (by simp)
  case done =>
    rintro D S₁ W' hD hnD ⟨R, d, hb, ho, rfl⟩ hmv hK
    have k1 := hb.cell
    have HO := Lib.hid ho
    have MV := Lib.hid hmv
    clear hb ho hmv
    gi_wp2
    refine ⟨by simp, .inl ⟨_, _, rfl, run_takeDeferred hK, ?_⟩⟩
    refine ⟨_, results_tmp rfl _ _ _, R, d, rfl, ?_, hB.trans (MV.out.below.trans (below_put W' _ (by omega) (Array.getElem?_eq_some_iff.1 hK).1))⟩
    exact (HO.out.kept (fun k hk => World.putObj_heap_other (k := k) (r := D) (fun e => hnD (.inr (by rw [← e]; exact hk))))).rd.rdB
end Go.Proofs.Ytajbnpjdhmeeiaa
