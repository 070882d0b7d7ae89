/- Contract of kidsMayBe. -/
import Derived.Test.YtobcedlkmnmikaaFoB
import Derived.Laws.MakeOwn
namespace Go.Proofs.Ytobcedlkmnmikaa.Fo
open Go.RowKit Go.Deep Go.Shelf
attribute [local go_sem] Oper.semAt_some
theorem Try.info4 : (Try.prog.info? 4).map (fun i => (i.zero, i.size, i.bytes)) = some (some (.bool false), 1, 1) := by kernel_rfl
/-- The flags of n tasks: which are among l. -/
def flags (n : Nat) (l : List Int) : Array Value := ((List.range n).map fun j : Nat => Value.bool (decide ((j : Int) ∈ l))).toArray
theorem make_flags (n : Nat) (hn : n ≤ 1000) (w : World) : (Instr.makeSlice 49 (.int .i64 n) (.int .i64 n)).run Try.prog w = .ok (.slice (some ⟨w.heap.size, 0, none⟩) n n) (w.alloc (.cells (flags n []) 4)) := by
  obtain ⟨i0, hi0, hz⟩ := Option.map_eq_some_iff.1 Try.info4
  simp only [Prod.mk.injEq] at hz
  obtain ⟨hz0, hz1, hz2⟩ := hz
  have h := run_makeSlice (P := Try.prog) w 49 4 i0 (.bool false) Try.underlying49 hi0 hz0 .i64 .i64 (n : Int) (n : Int) (by omega) (by omega) (by rw [hz1]; omega) (by rw [hz2]; omega) (by omega)
  rw [h]
  have e : madeCells (Value.bool false).cells ((n : Int).toNat * i0.size) = flags n [] := by
    rw [hz1]
    apply Array.ext
    · simp [madeCells, flags]
    · intro i h1 h2
      have hi : i % 1 = 0 := by omega
      simp [madeCells, flags, Value.cells, hi]
  rw [e]; rfl
theorem flags_at (n : Nat) (l : List Int) (k : Nat) (h : k < n) : (flags n l)[k]? = some (.bool (decide ((k : Int) ∈ l))) := by
  simp [flags, h]
theorem flags_set (n : Nat) (l : List Int) (k : Nat) : (flags n l).setIfInBounds k (.bool true) = flags n (l ++ [(k : Int)]) := by
  apply Array.ext
  · simp [flags]
  · intro i h1 h2
    simp only [flags, List.size_toArray, List.length_map, List.length_range] at h2
    rw [Array.getElem_setIfInBounds]
    · simp only [flags, List.getElem_toArray, List.getElem_map, List.getElem_range, List.mem_append, List.mem_singleton]
      by_cases e : k = i
      · simp [e]
      · have : ¬ (i : Int) = (k : Int) := by omega
        simp [e, this]
    · simpa [flags] using h2
/-- Block g holds the flags of n tasks. -/
def Fl (W : World) (g n : Nat) (l : List Int) : Prop := W.heap[g]? = some (.cells (flags n l) 4 (0, 0))
theorem Fl.cell {W : World} {g n : Nat} {l : List Int} (h : Fl W g n l) (k : Nat) (hk : k < n) : W.cell? ⟨g, k, none⟩ = some (.bool (decide ((k : Int) ∈ l))) := by
  unfold Fl at h
  simp [World.cell?, h, flags_at n l k hk]
theorem Fl.frozen {W : World} {g n : Nat} {l : List Int} (h : Fl W g n l) (k : Nat) : W.frozen? ⟨g, k, none⟩ = false := by
  unfold Fl at h
  simp [World.frozen?, h]
theorem Fl.set {W : World} {g n : Nat} {l : List Int} (h : Fl W g n l) (k : Nat) : Fl (W.setCell ⟨g, k, none⟩ (.bool true)) g n (l ++ [(k : Int)]) := by
  unfold Fl at h ⊢
  simp [World.setCell, Array.getElem?_modify, h, flags_set]
theorem Fl.kept {W W' : World} {g n : Nat} {l : List Int} {row : Option Nat} (h : Fl W g n l) (hg : W.grownBy W' row) (hr : ∀ r, row = some r → ∃ o : Obj, W.heap[r]? = some o ∧ o.isCells = false) : Fl W' g n l :=
  (grownBy_keeps_cells hg hr (k := g) h rfl).trans h
theorem Fl.alloc {W : World} {g n : Nat} {l : List Int} (h : Fl W g n l) (o : Obj) : Fl (W.alloc o) g n l := (Below.heap_alloc W o g (Array.getElem?_eq_some_iff.1 h).1).trans h
theorem boxed_kept {W W' : World} {B : Nat} {t : TypeId} {v : Value} {row : Option Nat} (h : Boxed W B t v) (hg : W.grownBy W' row) (hr : ∀ r, row = some r → ∃ o : Obj, W.heap[r]? = some o ∧ o.isCells = false) : Boxed W' B t v :=
  (grownBy_keeps_cells hg hr (k := B) h rfl).trans h
theorem boxed_set {W : World} {B : Nat} {t : TypeId} {v u : Value} {a : Addr} (h : Boxed W B t v) (ha : a.block ≠ B) : Boxed (W.setCell a u) B t v := (Below.heap_setCell W a u B (fun e => ha e.symm)).trans h
theorem fl_set_other {W : World} {g n : Nat} {l : List Int} {a : Addr} {u : Value} (h : Fl W g n l) (ha : a.block ≠ g) : Fl (W.setCell a u) g n l := (Below.heap_setCell W a u g (fun e => ha e.symm)).trans h
set_option maxRecDepth 100000 in
set_option maxHeartbeats 2000000 in
theorem kidsm_in (n : Nat) (hn : 3 ≤ n) (A : Option Addr) (c n₀ : Nat) (T : List Tsk) (w : World) (hT : Tk n₀ w A T) (hn₀ : n₀ ≤ w.heap.size) (hs : Sm T) :
    CallsIn Fence.wide n Try.prog 35 #[.slice A T.length c] w fun e w' => e = .returned (.bool (kd T)) ∧ Below w.heap.size w w' := by
  have h1 : 1 ≤ n := by omega
  have HS := Lib.hid hs
  have hs1 := hs.1
  have HT := Lib.hid hT
  have hmk := make_flags T.length hs1
  clear hs hT
  refine callsIn_of_wp_marks Try.func35 rfl trivial ?_ rfl
  simp only [Try.ntmps35, List.size_toArray, List.length_cons, List.length_nil, Nat.reduceAdd, Nat.reduceSub, Array.replicate_succ, Array.replicate_zero, List.push_toArray, List.append_toArray, List.nil_append, List.cons_append]
  gi_wp2_with (refine ⟨trivial, ?_⟩; gi_at_call 37; refine (spawns_in _ _ _ _ _).mono ?_; rintro e w' ⟨rfl, rfl⟩)
  generalize hs0 : w.heap.size = s at *
  have b0 : Boxed (((((w.alloc (.cells #[.slice A T.length c] 22)).alloc (.cells #[.bool false] 4)).alloc (.cells (flags T.length []) 4)).alloc (.cells #[.slice (some ⟨s + 1 + 1, 0, none⟩) T.length T.length] 49)).alloc (.cells #[.slice A T.length c] 22)) s 22 (.slice A T.length c) := by
    have := Boxed.new w 22 (.slice A T.length c)
    rw [hs0] at this
    exact (((this.alloc _).alloc _).alloc _).alloc _
  have b1 : Boxed (((((w.alloc (.cells #[.slice A T.length c] 22)).alloc (.cells #[.bool false] 4)).alloc (.cells (flags T.length []) 4)).alloc (.cells #[.slice (some ⟨s + 1 + 1, 0, none⟩) T.length T.length] 49)).alloc (.cells #[.slice A T.length c] 22)) (s + 1) 4 (.bool false) := by
    have := Boxed.new (w.alloc (.cells #[.slice A T.length c] 22)) 4 (.bool false)
    rw [World.size_alloc, hs0] at this
    exact ((this.alloc _).alloc _).alloc _
  have b2 : Fl (((((w.alloc (.cells #[.slice A T.length c] 22)).alloc (.cells #[.bool false] 4)).alloc (.cells (flags T.length []) 4)).alloc (.cells #[.slice (some ⟨s + 1 + 1, 0, none⟩) T.length T.length] 49)).alloc (.cells #[.slice A T.length c] 22)) (s + 1 + 1) T.length [] := by
    have : Fl (((w.alloc (.cells #[.slice A T.length c] 22)).alloc (.cells #[.bool false] 4)).alloc (.cells (flags T.length []) 4)) (s + 1 + 1) T.length [] := by
      have := World.alloc_heap_new ((w.alloc (.cells #[.slice A T.length c] 22)).alloc (.cells #[.bool false] 4)) (.cells (flags T.length []) 4)
      rw [World.size_alloc, World.size_alloc, hs0] at this
      exact this
    exact (this.alloc _).alloc _
  have b3 : Boxed (((((w.alloc (.cells #[.slice A T.length c] 22)).alloc (.cells #[.bool false] 4)).alloc (.cells (flags T.length []) 4)).alloc (.cells #[.slice (some ⟨s + 1 + 1, 0, none⟩) T.length T.length] 49)).alloc (.cells #[.slice A T.length c] 22)) (s + 1 + 1 + 1) 49 (.slice (some ⟨s + 1 + 1, 0, none⟩) T.length T.length) := by
    have := Boxed.new (((w.alloc (.cells #[.slice A T.length c] 22)).alloc (.cells #[.bool false] 4)).alloc (.cells (flags T.length []) 4)) 49 (.slice (some ⟨s + 1 + 1, 0, none⟩) T.length T.length)
    rw [World.size_alloc, World.size_alloc, World.size_alloc, hs0] at this
    exact this.alloc _
  have b4 : Boxed (((((w.alloc (.cells #[.slice A T.length c] 22)).alloc (.cells #[.bool false] 4)).alloc (.cells (flags T.length []) 4)).alloc (.cells #[.slice (some ⟨s + 1 + 1, 0, none⟩) T.length T.length] 49)).alloc (.cells #[.slice A T.length c] 22)) (s + 1 + 1 + 1 + 1) 22 (.slice A T.length c) := by
    have := Boxed.new ((((w.alloc (.cells #[.slice A T.length c] 22)).alloc (.cells #[.bool false] 4)).alloc (.cells (flags T.length []) 4)).alloc (.cells #[.slice (some ⟨s + 1 + 1, 0, none⟩) T.length T.length] 49)) 22 (.slice A T.length c)
    rw [World.size_alloc, World.size_alloc, World.size_alloc, World.size_alloc, hs0] at this
    exact this
  have hB0 : Below s w (((((w.alloc (.cells #[.slice A T.length c] 22)).alloc (.cells #[.bool false] 4)).alloc (.cells (flags T.length []) 4)).alloc (.cells #[.slice (some ⟨s + 1 + 1, 0, none⟩) T.length T.length] 49)).alloc (.cells #[.slice A T.length c] 22)) :=
    (((((Below.refl s w).alloc (by omega) _).alloc (by simp; omega) _).alloc (by simp; omega) _).alloc (by simp; omega) _).alloc (by simp; omega) _
  have hz : (((((w.alloc (.cells #[.slice A T.length c] 22)).alloc (.cells #[.bool false] 4)).alloc (.cells (flags T.length []) 4)).alloc (.cells #[.slice (some ⟨s + 1 + 1, 0, none⟩) T.length T.length] 49)).alloc (.cells #[.slice A T.length c] 22)).heap.size = s + 5 := by simp; omega
  generalize (((((w.alloc (.cells #[.slice A T.length c] 22)).alloc (.cells #[.bool false] 4)).alloc (.cells (flags T.length []) 4)).alloc (.cells #[.slice (some ⟨s + 1 + 1, 0, none⟩) T.length T.length] 49)).alloc (.cells #[.slice A T.length c] 22)) = W0 at *
  refine wpIn_rangeFunc_ownF rfl h1 (gf := 38) (lb := #[.pointer (some ⟨s + 1 + 1 + 1 + 1, 0, none⟩)]) rfl trivial (enters_of Try.func38 (by kernel_rfl) rfl)
    (spawns_stops (n - 1) (by omega) (s + 1 + 1 + 1 + 1) n₀ A c T HS.out W0 (by omega) (by omega) b4.cell (HT.out.below (hB0.mono hn₀))) belowK_t (belowK_b (by omega)) (Below.refl _ _) (fun _ => rfl)
    (fun pre W => (okP T.length pre ∧ Boxed W s 22 (.slice A T.length c) ∧ Boxed W (s + 1) 4 (.bool false) ∧ Fl W (s + 1 + 1) T.length (pre.map Prod.snd) ∧ Boxed W (s + 1 + 1 + 1) 49 (.slice (some ⟨s + 1 + 1, 0, none⟩) T.length T.length)) ∧ Below s w W)
    (fun c pre W => (c = .ret ∧ ¬ okP T.length pre ∧ Boxed W (s + 1) 4 (.bool false)) ∧ Below s w W)
    (OwnFrom.and (Own.from (fun s A B row hs hg hr => ⟨hs.1, boxed_kept hs.2.1 hg hr, boxed_kept hs.2.2.1 hg hr, hs.2.2.2.1.kept hg hr, boxed_kept hs.2.2.2.2 hg hr⟩) _) (ownFrom_below (by omega) (by omega)))
    (fun c => OwnFrom.and (Own.from (fun s A B row hs hg hr => ⟨hs.1, hs.2.1, boxed_kept hs.2.2 hg hr⟩) _) (ownFrom_below (by omega) (by omega)))
    ⟨⟨okP_nil _, b0, b1, b2, b3⟩, hB0⟩
    (fun x => { tmps := #[.slice A T.length c, .pointer (some ⟨s, 0, none⟩), .pointer (some ⟨s + 1, 0, none⟩), .pointer (some ⟨s + 1 + 1 + 1, 0, none⟩), .int .i64 x.1, .int .i64 x.2, .slice A T.length c, .int .i64 T.length, .slice (some ⟨s + 1 + 1, 0, none⟩) T.length T.length, .slice A T.length c,
      .func (.func 38) #[] #[.pointer (some ⟨s + 1 + 1 + 1 + 1, 0, none⟩)], .int .i64 x.1, .int .i64 x.2, undef, undef, undef, undef, undef, undef, undef, undef, undef, undef, undef, undef, undef, undef, undef, undef, undef, undef], defers := [] }) ?assign ?body ?done ?stop
  case assign =>
    intro l x W K hK
    gi_wp2
    exact hK
  case body =>
    rintro l pre ⟨p, k⟩ W ⟨⟨hok, c0, c1, fl, c3⟩, hB⟩ _
    have k0 := c0.cell
    have k1 := c1.cell
    have z1 := c1.frozen
    have k3 := c3.cell
    have HO := Lib.hid hok
    have C0 := Lib.hid c0
    have C1 := Lib.hid c1
    have C3 := Lib.hid c3
    have FL := Lib.hid fl
    have HB := Lib.hid hB
    clear hok c0 c1 c3 fl hB hmk
    by_cases h1 : k ≤ (p : Int)
    · gi_wp2
      exact ⟨KeepsOthers.setCell _ _ _, ⟨rfl, fun h => by have := (okP_snoc.1 h).2.1; omega, C1.out.set _⟩, HB.out.setCell (p := ⟨s + 1, 0, none⟩) (by simp) _⟩
    · by_cases h2 : (T.length : Int) ≤ k
      · gi_wp2
        exact ⟨KeepsOthers.setCell _ _ _, ⟨rfl, fun h => by have := (okP_snoc.1 h).2.2.1; omega, C1.out.set _⟩, HB.out.setCell (p := ⟨s + 1, 0, none⟩) (by simp) _⟩
      · obtain ⟨q, rfl⟩ : ∃ q : Nat, k = q := ⟨k.toNat, by omega⟩
        have hq : q < T.length := by omega
        have hf := FL.out.cell q hq
        have hz := FL.out.frozen q
        by_cases h3 : (q : Int) ∈ pre.map Prod.snd
        · have HM := Lib.hid h3
          have e : decide ((q : Int) ∈ pre.map Prod.snd) = true := decide_eq_true h3
          rw [e] at hf
          clear h3 e
          gi_wp2
          exact ⟨KeepsOthers.setCell _ _ _, ⟨rfl, fun h => (okP_snoc.1 h).2.2.2 HM.out, C1.out.set _⟩, HB.out.setCell (p := ⟨s + 1, 0, none⟩) (by simp) _⟩
        · have HM := Lib.hid h3
          have e : decide ((q : Int) ∈ pre.map Prod.snd) = false := decide_eq_false h3
          rw [e] at hf
          clear h3 e
          gi_wp2
          refine ⟨KeepsOthers.setCell _ _ _, (Below.refl n₀ W).setCell (p := ⟨s + 1 + 1, q, none⟩) (by simp; omega) _, ⟨okP_snoc.2 ⟨HO.out, by omega, by omega, HM.out⟩, boxed_set C0.out (by simp; omega), boxed_set C1.out (by simp), ?_, boxed_set C3.out (by simp)⟩, HB.out.setCell (p := ⟨s + 1 + 1, q, none⟩) (by simp; omega) _⟩
          rw [List.map_append]
          exact FL.out.set q
  case done =>
    rintro D ys W hD rfl ⟨⟨hok, c0, c1, fl, c3⟩, hB⟩ hK
    have k1 := c1.cell
    have z1 := c1.frozen
    have HO := Lib.hid hok
    have C1 := Lib.hid c1
    clear hok c0 fl c3 c1 hmk
    gi_wp2
    have hK' := (KeepsOthers.setCell W ⟨s + 1, 0, none⟩ (.bool true)).same D _ hK rfl
    refine ⟨by simp, .inl ⟨_, _, rfl, run_takeDeferred hK', ?_⟩⟩
    have hc5 := cell_kept (C1.out.set (.bool true)).cell (grownBy_putObj' _ D (.deferred none)) (fun r e => by cases e; exact ⟨_, hK', rfl⟩)
    refine ⟨.bool true, ?_, by rw [show kd T = true from decide_eq_true HO.out], hs0 ▸ (hB.setCell (p := ⟨s + 1, 0, none⟩) (by simp) _).trans (belowK_b (w := W0) (by omega) _ D _ _ (by omega) hK' rfl rfl)⟩
    simp [results, Try.f35, go_sem, hc5]
  case stop =>
    rintro D c pre W hD hp ⟨⟨rfl, hno, c1⟩, hB⟩ hK
    have HN := Lib.hid (show kd T = false from decide_eq_false (fun h => hno (okP_pre hp h)))
    clear hno hp hmk
    gi_wp2
    refine ⟨by simp, .inl ⟨_, _, rfl, run_takeDeferred hK, ?_⟩⟩
    have hc5 := cell_kept c1.cell (grownBy_putObj' _ D (.deferred none)) (fun r e => by cases e; exact ⟨_, hK, rfl⟩)
    refine ⟨.bool false, ?_, by rw [HN.out], hs0 ▸ hB.trans (belowK_b (w := W0) (by omega) W D _ _ (by omega) hK rfl rfl)⟩
    simp [results, Try.f35, go_sem, hc5]
theorem kidsm_any (A : Option Addr) (c n₀ : Nat) (T : List Tsk) (w : World) (hT : Tk n₀ w A T) (hn₀ : n₀ ≤ w.heap.size) (hs : Sm T) : Tells 35 #[.slice A T.length c] w (.bool (kd T)) :=
  (callsIn_wide (n := 3)).1 (kidsm_in 3 (Nat.le_refl _) A c n₀ T w hT hn₀ hs)
end Go.Proofs.Ytobcedlkmnmikaa.Fo
