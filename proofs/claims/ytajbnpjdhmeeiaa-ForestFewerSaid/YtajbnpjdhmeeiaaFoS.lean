/- A range over a function that calls itself: who owns which blocks, and the law of the statement where every round goes on. -/
import Derived.Test.YtajbnpjdhmeeiaaFoE
namespace Go.Proofs.Ytajbnpjdhmeeiaa
open Go.RowKit Go.Deep Go.Shelf

/-- From W, of which the blocks S are somebody's, to W': below n₀ nothing has turned, nor any other block that was there; what is new of S was not there. -/
structure Mv (n₀ : Nat) (S : Nat → Prop) (W : World) (S' : Nat → Prop) (W' : World) : Prop where
  below : Below n₀ W W'
  fr : ∀ k, k < W.heap.size → ¬ S k → W'.heap[k]? = W.heap[k]?
  sub : ∀ k, S' k → S k ∨ W.heap.size ≤ k
theorem Mv.refl (n₀ : Nat) (S : Nat → Prop) (W : World) : Mv n₀ S W S W := ⟨Below.refl _ _, fun _ _ _ => rfl, fun _ h => .inl h⟩
theorem Mv.trans {n₀ : Nat} {S S' S'' : Nat → Prop} {W W' W'' : World} (h : Mv n₀ S W S' W') (k : Mv n₀ S' W' S'' W'') : Mv n₀ S W S'' W'' := by
  have hz := h.below.size
  refine ⟨h.below.trans k.below, fun i hi hS => ?_, fun i hi => ?_⟩
  · refine (k.fr i (by omega) (fun hS' => ?_)).trans (h.fr i hi hS)
    rcases h.sub i hS' with h1 | h1
    · exact hS h1
    · omega
  · rcases k.sub i hi with h1 | h1
    · exact h.sub i h1
    · exact .inr (by omega)
theorem Mv.alloc {n₀ : Nat} {S : Nat → Prop} {W : World} (hn : n₀ ≤ W.heap.size) (o : Obj) : Mv n₀ S W S (W.alloc o) :=
  ⟨(Below.refl _ _).alloc hn _, fun k hk _ => Below.heap_alloc W o k hk, fun _ h => .inl h⟩

/-- What a loop's body says between two rounds, of its own blocks S. -/
structure Good (n₀ : Nat) (J : List Int → (Nat → Prop) → World → Prop) : Prop where
  lt : ∀ {pre S W}, J pre S W → ∀ k, S k → k < W.heap.size
  stab : ∀ {pre S W W'}, J pre S W → (∀ k, S k → W'.heap[k]? = W.heap[k]?) → Below n₀ W W' → J pre S W'

/-- Each call of yield goes on. -/
def Yields (n₀ N l : Nat) (J : List Int → (Nat → Prop) → World → Prop) : Prop :=
  ∀ m pre x S W, J pre S W → pre.length < N → YieldAt Fence.wide m Try.prog l #[.int .i64 x] W fun e W' => e = .returned (.bool true) ∧ ∃ S', J (pre ++ [x]) S' W' ∧ Mv n₀ S W S' W'

/-- How a round's body ends: it goes on. -/
def onPost (n₀ : Nat) (I : List Int → (Nat → Prop) → World → Prop) (pre : List Int) (S : Nat → Prop) (W : World) : Exit → Act → World → Prop
  | .normal, _, W' => ∃ S', I pre S' W' ∧ Mv n₀ S W S' W'
  | _, _, _ => False

theorem below_put {n₀ l : Nat} (W : World) (o : Obj) (hl : n₀ ≤ l) (hz : l < W.heap.size) : Below n₀ W (W.putObj l o) :=
  (Below.refl n₀ W).grown (grownBy_putObj' W l o) (by omega) (fun k e => by cases e; exact hl)

theorem range_within {n n₀ N gf : Nat} {g : Operand} {p : Tmp} {assign body : Code} {Q : Exit → Act → World → Prop} {a : Act} {w : World} {lb : Array Value} {xs : List Int}
    (hg : a.eval g = .func (.func gf) #[] lb) (eg : ∀ args w, (callFunc gf args).run Try.prog w = .ok (.enter gf args) w) (hn₀ : n₀ ≤ w.heap.size) {S0 : Nat → Prop}
    (hseq : ∀ l J W S, Good n₀ J → Yields n₀ N l J → J [] S W → Below w.heap.size w W → (∀ k, k < w.heap.size → S k → S0 k) →
      CallsIn Fence.wide (n - 1) Try.prog gf (#[.func (.yield l) #[] #[]] ++ lb) W fun e W' => (∃ v, e = .returned v) ∧ ∃ S', J xs S' W' ∧ Mv n₀ S W S' W')
    (I : List Int → (Nat → Prop) → World → Prop) (hI : Good n₀ I) (h0 : I [] S0 w) (a₁ : Int → Act)
    (hassign : ∀ (l m : Nat) (x : Int) (W : World) (K : Act → World → Prop), K (a₁ x) W →
      assign.wpIn (Fence.wide.inRound l) m Try.prog (Exit.then K (fun _ _ _ => False)) { tmps := a.tmps.setIfInBounds p (.int .i64 x), defers := [] } W)
    (hbody : ∀ (l m : Nat) (pre : List Int) (x : Int) (S : Nat → Prop) (W : World), I pre S W → pre.length < N →
      body.wpIn (Fence.wide.inRound l) m Try.prog (onPost n₀ I (pre ++ [x]) S W) (a₁ x) W)
    (hdone : ∀ (D : Nat) (S : Nat → Prop) (W : World), w.heap.size ≤ D → ¬ S D → I xs S W → Mv n₀ S0 w S W → W.heap[D]? = some (.deferred (some [])) →
      Q .normal { a with defers := { target := .collected D, args := #[] } :: a.defers } W) :
    (Code.rangeFunc g #[p] assign body).wpIn Fence.wide n Try.prog Q a w := by
  refine wpIn_rangeFunc ?_
  intro fn hfn
  obtain ⟨rec, hrec⟩ : ∃ rec : LoopState → Option Code → Loop, rec = fun st pe => { state := st, pending := pe, fn, tmps := a.tmps, params := #[p], assign, body, defers := w.heap.size } := ⟨_, rfl⟩
  have hD1 := World.alloc_heap_new w (.deferred (some []))
  have hL1 := World.alloc_heap_new (w.alloc (.deferred (some []))) (.loop (rec .ready none))
  have hD2 := (Below.heap_alloc (w.alloc (.deferred (some []))) (.loop (rec .ready none)) w.heap.size (by simp)).trans hD1
  have hB1 := ((Below.refl w.heap.size w).alloc (Nat.le_refl _) (.deferred (some []))).alloc (by simp) (.loop (rec .ready none))
  have hz1 : ((w.alloc (.deferred (some []))).alloc (.loop (rec .ready none))).heap.size = w.heap.size + 2 := by simp
  rw [World.size_alloc] at hL1
  have henter := run_enterLoop_outer (P := Try.prog) (w := w) fn a.tmps #[p] assign body
  have hrd : (.loop { state := .ready, pending := none, fn, tmps := a.tmps, params := #[p], assign, body, defers := w.heap.size } : Obj) = .loop (rec .ready none) := by rw [hrec]
  rw [hrd] at henter
  generalize (w.alloc (.deferred (some []))).alloc (.loop (rec .ready none)) = W1 at *
  refine ⟨w.heap.size + 1, [{ target := .collected w.heap.size, args := #[] }], W1, { target := .fn (.func gf) lb, args := #[.func (.yield (w.heap.size + 1)) #[] #[]] }, W1, gf, #[.func (.yield (w.heap.size + 1)) #[] #[]] ++ lb, W1, henter, ?_, fun _ _ => trivial, ?_, (fun h => by cases h), ?_⟩
  · simp only [resolve, hg]
    simp [go_sem]
  · simp [invoke, go_sem, eg]
  · have hne : ∀ k, S0 k → k < w.heap.size := hI.lt h0
    refine (hseq (w.heap.size + 1)
      (fun pre S W => ∃ S₁, I pre S₁ W ∧ (∀ k, S k ↔ S₁ k ∨ k = w.heap.size + 1 ∨ k = w.heap.size) ∧ ¬ S₁ (w.heap.size + 1) ∧ ¬ S₁ w.heap.size ∧ W.heap[w.heap.size + 1]? = some (.loop (rec .ready none)) ∧ W.heap[w.heap.size]? = some (.deferred (some [])))
      W1 (fun k => S0 k ∨ k = w.heap.size + 1 ∨ k = w.heap.size) ⟨?lt, ?stab⟩ ?yields ?start hB1 ?sub).mono ?fin
    case lt =>
      rintro pre S W ⟨S₁, hi, hS, h1, h2, hL, hK⟩ k hk
      rcases (hS k).1 hk with h | h | h
      · exact hI.lt hi k h
      · rw [h]; exact (Array.getElem?_eq_some_iff.1 hL).1
      · rw [h]; exact (Array.getElem?_eq_some_iff.1 hK).1
    case stab =>
      rintro pre S W W' ⟨S₁, hi, hS, h1, h2, hL, hK⟩ he hb
      exact ⟨S₁, hI.stab hi (fun k hk => he k ((hS k).2 (.inl hk))) hb, hS, h1, h2, (he _ ((hS _).2 (.inr (.inl rfl)))).trans hL, (he _ ((hS _).2 (.inr (.inr rfl)))).trans hK⟩
    case start =>
      exact ⟨S0, hI.stab h0 (fun k hk => hB1.block k (hne k hk)) (hB1.mono hn₀), fun k => Iff.rfl, fun h => by have := hne _ h; omega, fun h => by have := hne _ h; omega, hL1, hD2⟩
    case sub =>
      rintro k hk (h | h | h)
      · exact h
      · omega
      · omega
    case yields =>
      rintro m pre x S W ⟨S₁, hi, hS, h1, h2, hL, hK⟩ hlen
      have hlt : w.heap.size + 1 < W.heap.size := (Array.getElem?_eq_some_iff.1 hL).1
      have hy := run_yield (P := Try.prog) (args := #[.int .i64 x]) hL (by rw [hrec]; rfl)
      rw [hrec] at hy
      have et : (#[p].zip #[Value.int .i64 x]).foldl (fun tmps (y : Tmp × Value) => tmps.setIfInBounds y.1 y.2) a.tmps = a.tmps.setIfInBounds p (.int .i64 x) := by simp
      refine ⟨fn, a.tmps.setIfInBounds p (.int .i64 x), assign, body, by rw [← et]; exact hy, roundIn_of_wpIn hfn (hassign _ m x W _ ?_)⟩
      clear hy
      refine ⟨_, run_beginRound hL (by rw [hrec]), ?_⟩
      have hL2 : (W.putObj (w.heap.size + 1) (.loop { rec .ready none with state := .busy })).heap[w.heap.size + 1]? = some (.loop { rec .ready none with state := .busy }) := World.putObj_heap_same hlt
      have hoth : ∀ k, k ≠ w.heap.size + 1 → (W.putObj (w.heap.size + 1) (.loop { rec .ready none with state := .busy })).heap[k]? = W.heap[k]? := fun k hk => World.putObj_heap_other hk
      have hsz : (W.putObj (w.heap.size + 1) (.loop { rec .ready none with state := .busy })).heap.size = W.heap.size := World.putObj_size
      have hbl : Below n₀ W (W.putObj (w.heap.size + 1) (.loop { rec .ready none with state := .busy })) := below_put W _ (by omega) hlt
      have hi2 := hI.stab hi (fun k hk => hoth k (fun e => h1 (e ▸ hk))) hbl
      generalize W.putObj (w.heap.size + 1) (.loop { rec .ready none with state := .busy }) = W2 at *
      refine wpIn_mono (hbody _ m pre x S₁ W2 hi2 hlen) ?_
      rintro e a3 W3 hp
      cases e with
      | normal =>
        obtain ⟨S', hi3, hm⟩ := hp
        have hz3 := hm.below.size
        have hL3 := (hm.fr (w.heap.size + 1) (by omega) h1).trans hL2
        have hlt3 : w.heap.size + 1 < W3.heap.size := by omega
        have hK3 := (hm.fr w.heap.size (by omega) h2).trans ((hoth _ (by omega)).trans hK)
        have hno : ∀ k, ¬ S₁ k → k < W2.heap.size → ¬ S' k := fun k hk hlt' hs => by
          rcases hm.sub k hs with h | h
          · exact hk h
          · omega
        have hend := run_endRound (P := Try.prog) none hL3
        have hre : ({ rec .ready none with state := .busy } : Loop) = rec .busy none := by rw [hrec]
        have hre2 : ({ rec .busy none with state := if (none : Option Code).isNone = true then .ready else .done, pending := none } : Loop) = rec .ready none := by rw [hrec]; rfl
        rw [hre, hre2] at hend
        have hoth4 : ∀ k, k ≠ w.heap.size + 1 → (W3.putObj (w.heap.size + 1) (.loop (rec .ready none))).heap[k]? = W3.heap[k]? := fun k hk => World.putObj_heap_other hk
        have hbl4 : Below n₀ W3 (W3.putObj (w.heap.size + 1) (.loop (rec .ready none))) := below_put W3 _ (by omega) hlt3
        refine ⟨_, _, hend, rfl, fun k => S' k ∨ k = w.heap.size + 1 ∨ k = w.heap.size, ⟨S', hI.stab hi3 (fun k hk => hoth4 k (fun e => hno _ h1 (by omega) (e ▸ hk))) hbl4, fun k => Iff.rfl, hno _ h1 (by omega), hno _ h2 (by omega), World.putObj_heap_same hlt3, (hoth4 _ (by omega)).trans hK3⟩, ?_⟩
        refine ⟨hbl.trans (hm.below.trans hbl4), fun k hk hk' => ?_, fun k hk => ?_⟩
        · have e1 : k ≠ w.heap.size + 1 := fun e => hk' ((hS k).2 (.inr (.inl e)))
          exact (hoth4 k e1).trans ((hm.fr k (by omega) (fun h => hk' ((hS k).2 (.inl h)))).trans (hoth k e1))
        · rcases hk with h | h | h
          · rcases hm.sub k h with h | h
            · exact .inl ((hS k).2 (.inl h))
            · exact .inr (by omega)
          · exact .inl ((hS k).2 (.inr (.inl h)))
          · exact .inl ((hS k).2 (.inr (.inr h)))
      | ret => exact hp.elim
      | exit id => exact hp.elim
      | goto t => exact hp.elim
      | panic ch => exact hp.elim
      | outgrown => exact hp.elim
    case fin =>
      rintro e W2 ⟨⟨v, rfl⟩, S, ⟨S₁, hi, hS, h1, h2, hL, hK⟩, hm⟩
      have hlt : w.heap.size + 1 < W2.heap.size := (Array.getElem?_eq_some_iff.1 hL).1
      obtain ⟨o, hend⟩ : ∃ o, (Instr.endLoop (w.heap.size + 1)).run Try.prog W2 = .ok none (W2.putObj (w.heap.size + 1) o) := by
        have h := run_endLoop (P := Try.prog) hL (by rw [hrec]; simp)
        have hre : (rec .ready none).pending = none := by rw [hrec]
        rw [hre] at h
        exact ⟨_, h⟩
      refine ⟨none, _, hend, ?_⟩
      have hoth : ∀ k, k ≠ w.heap.size + 1 → (W2.putObj (w.heap.size + 1) o).heap[k]? = W2.heap[k]? := fun k hk => World.putObj_heap_other hk
      have hbl : Below n₀ W2 (W2.putObj (w.heap.size + 1) o) := below_put W2 _ (by omega) hlt
      refine hdone w.heap.size S₁ _ (Nat.le_refl _) h2 (hI.stab hi (fun k hk => hoth k (fun e => h1 (e ▸ hk))) hbl) ⟨(hB1.mono hn₀).trans (hm.below.trans hbl), fun k hk hk' => ?_, fun k hk => ?_⟩ ((hoth _ (by omega)).trans hK)
      · exact (hoth k (by omega)).trans ((hm.fr k (by omega) (fun h => by rcases h with h | h | h; exact hk' h; omega; omega)).trans (hB1.block k hk))
      · rcases hm.sub k ((hS k).2 (.inl hk)) with h | h
        · rcases h with h | h | h
          · exact .inl h
          · exact .inr (by omega)
          · exact .inr (by omega)
        · exact .inr (by omega)
end Go.Proofs.Ytajbnpjdhmeeiaa
