/- A range over a function, where every round goes on and may store into whatever lay ahead of it: the law by the list of what has been handed on so far. -/
import Derived.Test.YtgemaeibmgkneaaDeA
import Derived.RangeFuncNested
import Derived.RangeFuncBound
import Derived.RangeFuncCalls
import Derived.RangeFuncLeaves
import Derived.Shelf.Abstract
import Derived.Shelf.RegionOpen
import Derived.OwnWalkIn
import Derived.TacticsInMore
import Derived.LoopNIn
import Derived.LoopIn
namespace Go.Proofs.Ytgemaeibmgkneaa
open Go.RowKit Go.Deep Go.Shelf
/-- All cells that there were are as they were, and so is all that lies below n₀. -/
structure Cl (n₀ : Nat) (W W' : World) : Prop where
  low : Below n₀ W W'
  same : ∀ (k : Nat) (o : Obj), W.heap[k]? = some o → o.isCells = true → W'.heap[k]? = some o
set_option maxRecDepth 100000 in
theorem Cl.size {n₀ : Nat} {W W' : World} (h : Cl n₀ W W') : W.heap.size ≤ W'.heap.size := h.low.size
set_option maxRecDepth 100000 in
theorem Cl.refl (n₀ : Nat) (W : World) : Cl n₀ W W := ⟨Below.refl _ _, fun _ _ h _ => h⟩
set_option maxRecDepth 100000 in
theorem Cl.trans {n₀ : Nat} {A B C : World} (h : Cl n₀ A B) (k : Cl n₀ B C) : Cl n₀ A C := ⟨h.low.trans k.low, fun i o hi ho => k.same i o (h.same i o hi ho) ho⟩
set_option maxRecDepth 100000 in
theorem Cl.of_below {n₀ : Nat} {W W' : World} (h : Below W.heap.size W W') (hn : n₀ ≤ W.heap.size) : Cl n₀ W W' := ⟨h.mono hn, fun k _ hk _ => (h.block k (Array.getElem?_eq_some_iff.1 hk).1).trans hk⟩
set_option maxRecDepth 100000 in
theorem below_put {n₀ l : Nat} (W : World) (o : Obj) (hl : n₀ ≤ l) (hz : l < W.heap.size) : Below n₀ W (W.putObj l o) :=
  (Below.refl n₀ W).grown (grownBy_putObj' W l o) (by omega) (fun k e => by cases e; exact hl)
set_option maxRecDepth 100000 in
theorem Cl.put {n₀ : Nat} {W : World} {l : Nat} {o : Obj} (o' : Obj) (h : W.heap[l]? = some o) (ho : o.isCells = false) (hn : n₀ ≤ l) : Cl n₀ W (W.putObj l o') := by
  refine ⟨below_put W o' hn (Array.getElem?_eq_some_iff.1 h).1, fun k o2 hk h2 => ?_⟩
  have hne : k ≠ l := fun e => by
    rw [e, h] at hk
    cases hk
    rw [ho] at h2
    cases h2
  exact (World.putObj_heap_other hne).trans hk
set_option maxRecDepth 100000 in
theorem keeps_below {W W' : World} (h : Below W.heap.size W W') : KeepsOthers W W' := ⟨h.size, fun k _ hk _ => (h.block k (Array.getElem?_eq_some_iff.1 hk).1).trans hk⟩
/-- A mark among the deferred calls. -/
abbrev mark (D : Nat) : Deferred := { target := .collected D, args := #[] }
set_option maxRecDepth 100000 in
theorem leaves_mark {F : Fence} {n n₀ : Nat} {P : Program} {fn : Func} {tmps : Array Value} {R : Ending → World → Prop} (D : Nat) (W : World) (h4 : W.heap[D]? = some (.deferred (some []))) (hn : n₀ ≤ D)
    (h : ∀ W', Cl n₀ W W' → (∀ k, k ≠ D → W'.heap[k]? = W.heap[k]?) → W'.heap.size = W.heap.size → ∃ v, (results fn tmps).run P W' = .ok v W' ∧ R (.returned v) W') : LeavesInM F n P fn tmps R [mark D] .returning W := by
  refine ⟨by simp, .inl ⟨D, _, rfl, run_takeDeferred h4, ?_⟩⟩
  exact h _ (Cl.put _ h4 rfl hn) (fun k hk => World.putObj_heap_other hk) World.putObj_size
/-- How a round's body ends: it goes on. -/
def onP (I : List Int → World → Prop) (pre : List Int) (W : World) : Exit → Act → World → Prop
  | .normal, _, W' => I pre W' ∧ KeepsOthers W W'
  | _, _, _ => False
set_option maxRecDepth 100000 in
theorem onP_mk {I : List Int → World → Prop} {pre : List Int} {W W' : World} {a : Act} (h : I pre W') (hk : KeepsOthers W W') : onP I pre W .normal a W' := ⟨h, hk⟩
set_option maxRecDepth 100000 in
theorem range_pre {n n₀ gf : Nat} {g : Operand} {p : Tmp} {assign body : Code} {Q : Exit → Act → World → Prop} {a : Act} {w : World} {lb : Array Value} {xs : List Int}
    (hg : a.eval g = .func (.func gf) #[] lb) (eg : ∀ args w, (callFunc gf args).run Try.prog w = .ok (.enter gf args) w)
    (I : List Int → World → Prop) (hn₀ : n₀ ≤ w.heap.size) (hI : ∀ pre W W', I pre W → Cl n₀ W W' → I pre W') (h0 : I [] w)
    (hseq : ∀ (l : Nat) (J : List Int → World → Prop) (W : World), (∀ pre W W', J pre W → Below W.heap.size W W' → J pre W') → (∀ pre W, J pre W → I pre W) →
      (∀ (m : Nat) (pre : List Int) (x : Int) (rest : List Int) (W : World), J pre W → xs = pre ++ x :: rest → YieldAt Fence.wide m Try.prog l #[.int .i64 x] W fun e W' => e = .returned (.bool true) ∧ J (pre ++ [x]) W') → J [] W →
      CallsIn Fence.wide (n - 1) Try.prog gf (#[.func (.yield l) #[] #[]] ++ lb) W fun e W' => (∃ v, e = .returned v) ∧ J xs W')
    (a₁ : Int → Act)
    (hassign : ∀ (l m : Nat) (x : Int) (W : World) (K : Act → World → Prop), K (a₁ x) W →
      assign.wpIn (Fence.wide.inRound l) m Try.prog (Exit.then K (fun _ _ _ => False)) { tmps := a.tmps.setIfInBounds p (.int .i64 x), defers := [] } W)
    (hbody : ∀ (l m : Nat) (pre : List Int) (x : Int) (rest : List Int) (W : World), I pre W → xs = pre ++ x :: rest →
      body.wpIn (Fence.wide.inRound l) m Try.prog (onP I (pre ++ [x]) W) (a₁ x) W)
    (hdone : ∀ (D : Nat) (W : World), w.heap.size ≤ D → I xs W → W.heap[D]? = some (.deferred (some [])) → Q .normal { a with defers := mark D :: a.defers } W) :
    (Code.rangeFunc g #[p] assign body).wpIn Fence.wide n Try.prog Q a w := by
  refine wpIn_rangeFunc ?_
  intro fn hfn
  obtain ⟨rec, hrec⟩ : ∃ rec : LoopState → Option Code → Loop, rec = fun st pe => { state := st, pending := pe, fn, tmps := a.tmps, params := #[p], assign, body, defers := w.heap.size } := ⟨_, rfl⟩
  have hD1 := World.alloc_heap_new w (.deferred (some []))
  have hL1 := World.alloc_heap_new (w.alloc (.deferred (some []))) (.loop (rec .ready none))
  have hD2 := (Below.heap_alloc (w.alloc (.deferred (some []))) (.loop (rec .ready none)) w.heap.size (by simp)).trans hD1
  have hB1 := ((Below.refl w.heap.size w).alloc (Nat.le_refl _) (.deferred (some []))).alloc (by simp) (.loop (rec .ready none))
  rw [World.size_alloc] at hL1
  have henter := run_enterLoop_outer (P := Try.prog) (w := w) fn a.tmps #[p] assign body
  have hrd : (.loop { state := .ready, pending := none, fn, tmps := a.tmps, params := #[p], assign, body, defers := w.heap.size } : Obj) = .loop (rec .ready none) := by rw [hrec]
  rw [hrd] at henter
  generalize (w.alloc (.deferred (some []))).alloc (.loop (rec .ready none)) = W1 at *
  refine ⟨w.heap.size + 1, [{ target := .collected w.heap.size, args := #[] }], W1, { target := .fn (.func gf) lb, args := #[.func (.yield (w.heap.size + 1)) #[] #[]] }, W1, gf, #[.func (.yield (w.heap.size + 1)) #[] #[]] ++ lb, W1, henter, ?_, fun _ _ => trivial, ?_, (fun h => by cases h), ?_⟩
  · simp only [resolve, hg]
    simp [go_sem]
  · simp [invoke, go_sem, eg]
  · refine (hseq (w.heap.size + 1)
      (fun pre W => I pre W ∧ W.heap[w.heap.size + 1]? = some (.loop (rec .ready none)) ∧ W.heap[w.heap.size]? = some (.deferred (some [])))
      W1 ?ab (fun _ _ h => h.1) ?yields ⟨hI _ _ _ h0 (Cl.of_below hB1 hn₀), hL1, hD2⟩).mono ?fin
    case ab =>
      rintro pre W W' ⟨hi, hL, hK⟩ hb
      have hlt := (Array.getElem?_eq_some_iff.1 hL).1
      exact ⟨hI _ _ _ hi (Cl.of_below hb (by omega)), (hb.block _ (Array.getElem?_eq_some_iff.1 hL).1).trans hL, (hb.block _ (Array.getElem?_eq_some_iff.1 hK).1).trans hK⟩
    case yields =>
      rintro m pre x rest W ⟨hi, hL, hK⟩ hx
      have hlt : w.heap.size + 1 < W.heap.size := (Array.getElem?_eq_some_iff.1 hL).1
      have hy := run_yield (P := Try.prog) (args := #[.int .i64 x]) hL (by rw [hrec]; rfl)
      rw [hrec] at hy
      have et : (#[p].zip #[Value.int .i64 x]).foldl (fun tmps (y : Tmp × Value) => tmps.setIfInBounds y.1 y.2) a.tmps = a.tmps.setIfInBounds p (.int .i64 x) := by simp
      refine ⟨fn, a.tmps.setIfInBounds p (.int .i64 x), assign, body, by rw [← et]; exact hy, roundIn_of_wpIn hfn (hassign _ m x W _ ?_)⟩
      clear hy
      refine ⟨_, run_beginRound hL (by rw [hrec]), ?_⟩
      have hL2 : (W.putObj (w.heap.size + 1) (.loop { rec .ready none with state := .busy })).heap[w.heap.size + 1]? = some (.loop { rec .ready none with state := .busy }) := World.putObj_heap_same hlt
      have hK2 : (W.putObj (w.heap.size + 1) (.loop { rec .ready none with state := .busy })).heap[w.heap.size]? = some (.deferred (some [])) := (World.putObj_heap_other (by omega)).trans hK
      have hi2 := hI _ _ _ hi (Cl.put (.loop { rec .ready none with state := .busy }) hL rfl (by omega))
      generalize W.putObj (w.heap.size + 1) (.loop { rec .ready none with state := .busy }) = W2 at *
      refine wpIn_mono (hbody _ m pre x rest W2 hi2 hx) ?_
      rintro e a3 W3 hp
      obtain ⟨rfl, hi3, hk⟩ : e = .normal ∧ I (pre ++ [x]) W3 ∧ KeepsOthers W2 W3 := by
        cases e with
        | normal => exact ⟨rfl, hp⟩
        | ret => exact hp.elim
        | exit id => exact hp.elim
        | goto t => exact hp.elim
        | panic ch => exact hp.elim
        | outgrown => exact hp.elim
      have hL3 := hk.same _ _ hL2 rfl
      have hK3 := hk.same _ _ hK2 rfl
      have hlt3 := (Array.getElem?_eq_some_iff.1 hL3).1
      have hend := run_endRound (P := Try.prog) none hL3
      have hre : ({ rec .ready none with state := .busy } : Loop) = rec .busy none := by rw [hrec]
      have hre2 : ({ rec .busy none with state := if (none : Option Code).isNone = true then .ready else .done, pending := none } : Loop) = rec .ready none := by rw [hrec]; rfl
      rw [hre] at hL3
      rw [hre, hre2] at hend
      exact ⟨_, _, hend, rfl, hI _ _ _ hi3 (Cl.put _ hL3 rfl (by omega)), World.putObj_heap_same hlt3, (World.putObj_heap_other (by omega)).trans hK3⟩
    case fin =>
      rintro e W2 ⟨⟨v, rfl⟩, hi, hL, hK⟩
      obtain ⟨o, hend⟩ : ∃ o, (Instr.endLoop (w.heap.size + 1)).run Try.prog W2 = .ok none (W2.putObj (w.heap.size + 1) o) := by
        have h := run_endLoop (P := Try.prog) hL (by rw [hrec]; simp)
        have hre : (rec .ready none).pending = none := by rw [hrec]
        rw [hre] at h
        exact ⟨_, h⟩
      refine ⟨none, _, hend, ?_⟩
      exact hdone w.heap.size _ (Nat.le_refl _) (hI _ _ _ hi (Cl.put _ hL rfl (by omega))) ((World.putObj_heap_other (by omega)).trans hK)
set_option maxRecDepth 100000 in
/-- The same, where the loop's variable is set from the parameter at once. -/
theorem range_pre2 {n n₀ gf p2 : Nat} {g : Operand} {p : Tmp} {assign body : Code} {Q : Exit → Act → World → Prop} {a : Act} {w : World} {lb : Array Value} {xs : List Int}
    (hg : a.eval g = .func (.func gf) #[] lb) (eg : ∀ args w, (callFunc gf args).run Try.prog w = .ok (.enter gf args) w)
    (I : List Int → World → Prop) (hn₀ : n₀ ≤ w.heap.size) (hI : ∀ pre W W', I pre W → Cl n₀ W W' → I pre W') (h0 : I [] w)
    (hseq : ∀ (l : Nat) (J : List Int → World → Prop) (W : World), (∀ pre W W', J pre W → Below W.heap.size W W' → J pre W') → (∀ pre W, J pre W → I pre W) →
      (∀ (m : Nat) (pre : List Int) (x : Int) (rest : List Int) (W : World), J pre W → xs = pre ++ x :: rest → YieldAt Fence.wide m Try.prog l #[.int .i64 x] W fun e W' => e = .returned (.bool true) ∧ J (pre ++ [x]) W') → J [] W →
      CallsIn Fence.wide (n - 1) Try.prog gf (#[.func (.yield l) #[] #[]] ++ lb) W fun e W' => (∃ v, e = .returned v) ∧ J xs W')
    (hassign : ∀ (l m : Nat) (x : Int) (W : World) (K : Act → World → Prop), K { tmps := (a.tmps.setIfInBounds p (.int .i64 x)).setIfInBounds p2 (.int .i64 x), defers := [] } W →
      assign.wpIn (Fence.wide.inRound l) m Try.prog (Exit.then K (fun _ _ _ => False)) { tmps := a.tmps.setIfInBounds p (.int .i64 x), defers := [] } W)
    (hbody : ∀ (l m : Nat) (pre : List Int) (x : Int) (rest : List Int) (W : World), I pre W → xs = pre ++ x :: rest →
      body.wpIn (Fence.wide.inRound l) m Try.prog (onP I (pre ++ [x]) W) { tmps := (a.tmps.setIfInBounds p (.int .i64 x)).setIfInBounds p2 (.int .i64 x), defers := [] } W)
    (hdone : ∀ (D : Nat) (W : World), w.heap.size ≤ D → I xs W → W.heap[D]? = some (.deferred (some [])) → Q .normal { a with defers := mark D :: a.defers } W) :
    (Code.rangeFunc g #[p] assign body).wpIn Fence.wide n Try.prog Q a w :=
  range_pre hg eg I hn₀ hI h0 hseq _ hassign hbody hdone
end Go.Proofs.Ytgemaeibmgkneaa
