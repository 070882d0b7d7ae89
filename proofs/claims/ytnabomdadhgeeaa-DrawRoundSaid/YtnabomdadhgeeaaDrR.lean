/- A range over a function that keeps a row of its own, which the loop's body reads: the law of the statement where a round that goes on writes nothing, and one that ends the loop may write what lay there ahead of it. -/
import Derived.Test.YtnabomdadhgeeaaDrM
import Derived.RangeFuncNested
import Derived.RangeFuncBound
import Derived.RangeFuncCalls
import Derived.RangeFuncLeaves
import Derived.Shelf.Abstract
import Derived.Shelf.RegionOpen
import Derived.OwnWalkIn
import Derived.TacticsInMore
import Derived.LoopNIn
import Derived.LoopIn
namespace Go.Proofs.Ytnabomdadhgeeaa
open Go.RowKit Go.Deep Go.Shelf

/-- A word that stands as long as nothing below B turns. -/
def Abd (B : Nat) (J : World → Prop) : Prop := ∀ W W', J W → Below B W W' → J W'
/-- What each call of yield does, told by how many there were. -/
def YieldsS (n l : Nat) (enc : Nat → Nat → Array Value) (T : Nat) (Rdy : Nat → Nat → World → Prop) (J : Nat → World → Prop) (Jx : World → Prop) : Prop :=
  ∀ g c W, J c W → c < T → Rdy g c W → YieldAt Fence.wide n Try.prog l (enc g c) W fun e W' => (e = .returned (.bool true) ∧ W' = W ∧ J (c + 1) W) ∨ (e = .returned (.bool false) ∧ Jx W')
/-- How a round's body ends. -/
def strPost (I : Nat → World → Prop) (Ix : Nat → World → Prop) (c : Nat) (W : World) : Exit → Act → World → Prop
  | .normal, _, W' => W' = W ∧ I c W
  | .exit id, _, W' => KeepsOthers W W' ∧ Ix id W'
  | _, _, _ => False
theorem putObj_back {W : World} {L : Nat} {o o' : Obj} (h : W.heap[L]? = some o) : (W.putObj L o').putObj L o = W := by
  obtain ⟨hl, he⟩ := Array.getElem?_eq_some_iff.1 h
  unfold World.putObj
  simp only [Array.setIfInBounds_setIfInBounds]
  have : W.heap.setIfInBounds L o = W.heap := by
    apply Array.ext
    · simp
    · intro i h1 h2
      rw [Array.getElem_setIfInBounds]
      split
      · rename_i e; subst e; exact he.symm
      · rfl
  rw [this]
theorem below_put {n₀ l : Nat} (W : World) (o : Obj) (hl : n₀ ≤ l) (hz : l < W.heap.size) : Below n₀ W (W.putObj l o) :=
  (Below.refl n₀ W).grown (grownBy_putObj' W l o) (by omega) (fun k e => by cases e; exact hl)

theorem range_str {n T gf : Nat} {g : Operand} {ps : Array Tmp} {assign body : Code} {Q : Exit → Act → World → Prop} {a : Act} {w : World} {lb : Array Value} {enc : Nat → Nat → Array Value} {Rdy : Nat → Nat → World → Prop}
    (hg : a.eval g = .func (.func gf) #[] lb) (eg : ∀ args w, (callFunc gf args).run Try.prog w = .ok (.enter gf args) w) (h1 : 1 ≤ n) (hps : ∀ g c, (enc g c).size = ps.size)
    (hRdy : ∀ g c W W', Rdy g c W → g ≠ w.heap.size + 1 → W'.heap[g]? = W.heap[g]? → Rdy g c W') (hRne : ∀ g c W o, Rdy g c W → W.heap[g]? = some (.loop o) → False)
    (hseq : ∀ l J Jx W, (∀ c, Abd W.heap.size (J c)) → Abd W.heap.size Jx → Below w.heap.size w W → YieldsS (n - 1 - 1) l enc T Rdy J Jx → J 0 W →
      CallsIn Fence.wide (n - 1) Try.prog gf (#[.func (.yield l) #[] #[]] ++ lb) W fun e W' => (∃ v, e = .returned v) ∧ (J T W' ∨ Jx W'))
    (I : Nat → World → Prop) (Ix : Nat → World → Prop) (hI : ∀ c, Abd w.heap.size (I c)) (hIx : ∀ c, Abd w.heap.size (Ix c)) (h0 : I 0 w) (a₁ : Nat → Nat → Act)
    (hassign : ∀ (l g c : Nat) (W : World) (K : Act → World → Prop), K (a₁ g c) W →
      assign.wpIn (Fence.wide.inRound l) (n - 1 - 1) Try.prog (Exit.then K (fun _ _ _ => False)) { tmps := (ps.zip (enc g c)).foldl (fun t (p, v) => t.setIfInBounds p v) a.tmps, defers := [] } W)
    (hbody : ∀ (l g c : Nat) (W : World), I c W → c < T → Rdy g c W → body.wpIn (Fence.wide.inRound l) (n - 1 - 1) Try.prog (strPost I Ix (c + 1) W) (a₁ g c) W)
    (hdone : ∀ (D : Nat) (W : World), w.heap.size ≤ D → I T W → W.heap[D]? = some (.deferred (some [])) → Q .normal { a with defers := { target := .collected D, args := #[] } :: a.defers } W)
    (hstop : ∀ (D id : Nat) (W : World), w.heap.size ≤ D → Ix id W → W.heap[D]? = some (.deferred (some [])) → (Code.exit id).wpIn Fence.wide n Try.prog Q { a with defers := { target := .collected D, args := #[] } :: a.defers } W) :
    (Code.rangeFunc g ps assign body).wpIn Fence.wide n Try.prog Q a w := by
  refine wpIn_rangeFunc ?_
  intro fn hfn
  obtain ⟨rec, hrec⟩ : ∃ rec : LoopState → Option Code → Loop, rec = fun st pe => { state := st, pending := pe, fn, tmps := a.tmps, params := ps, assign, body, defers := w.heap.size } := ⟨_, rfl⟩
  have hD1 := World.alloc_heap_new w (.deferred (some []))
  have hL1 := World.alloc_heap_new (w.alloc (.deferred (some []))) (.loop (rec .ready none))
  have hD2 := (Below.heap_alloc (w.alloc (.deferred (some []))) (.loop (rec .ready none)) w.heap.size (by simp)).trans hD1
  have hB1 := ((Below.refl w.heap.size w).alloc (Nat.le_refl _) (.deferred (some []))).alloc (by simp) (.loop (rec .ready none))
  have hz1 : ((w.alloc (.deferred (some []))).alloc (.loop (rec .ready none))).heap.size = w.heap.size + 2 := by simp
  rw [World.size_alloc] at hL1
  have henter := run_enterLoop_outer (P := Try.prog) (w := w) fn a.tmps ps assign body
  have hrd : (.loop { state := .ready, pending := none, fn, tmps := a.tmps, params := ps, assign, body, defers := w.heap.size } : Obj) = .loop (rec .ready none) := by rw [hrec]
  rw [hrd] at henter
  generalize (w.alloc (.deferred (some []))).alloc (.loop (rec .ready none)) = W1 at *
  refine ⟨w.heap.size + 1, [{ target := .collected w.heap.size, args := #[] }], W1, { target := .fn (.func gf) lb, args := #[.func (.yield (w.heap.size + 1)) #[] #[]] }, W1, gf, #[.func (.yield (w.heap.size + 1)) #[] #[]] ++ lb, W1, henter, ?_, fun _ _ => trivial, ?_, (fun _ => h1), ?_⟩
  · simp only [resolve, hg]
    simp [go_sem]
  · simp [invoke, go_sem, eg]
  · refine (hseq (w.heap.size + 1)
      (fun c W => I c W ∧ W.heap[w.heap.size + 1]? = some (.loop (rec .ready none)) ∧ W.heap[w.heap.size]? = some (.deferred (some [])))
      (fun W => ∃ id, Ix id W ∧ W.heap[w.heap.size + 1]? = some (.loop (rec .done (some (.exit id)))) ∧ W.heap[w.heap.size]? = some (.deferred (some [])))
      W1 ?abJ ?abX hB1 ?yields ⟨hI 0 _ _ h0 hB1, hL1, hD2⟩).mono ?fin
    case abJ =>
      rintro c W W' ⟨hi, hL, hK⟩ hb
      rw [hz1] at hb
      exact ⟨hI c _ _ hi (hb.mono (by omega)), (hb.block _ (by omega)).trans hL, (hb.block _ (by omega)).trans hK⟩
    case abX =>
      rintro W W' ⟨id, hi, hL, hK⟩ hb
      rw [hz1] at hb
      exact ⟨id, hIx id _ _ hi (hb.mono (by omega)), (hb.block _ (by omega)).trans hL, (hb.block _ (by omega)).trans hK⟩
    case yields =>
      rintro gg c W ⟨hi, hL, hK⟩ hc hR
      have hlt : w.heap.size + 1 < W.heap.size := (Array.getElem?_eq_some_iff.1 hL).1
      have hy := run_yield (P := Try.prog) (args := enc gg c) hL (by rw [hrec]; exact hps gg c)
      rw [hrec] at hy
      refine ⟨fn, _, assign, body, hy, roundIn_of_wpIn hfn (hassign _ gg c W _ ⟨_, run_beginRound hL (by rw [hrec]), ?_⟩)⟩
      clear hy
      have hgne : gg ≠ w.heap.size + 1 := fun e => hRne gg c W _ hR (e ▸ hL)
      have hL2 : (W.putObj (w.heap.size + 1) (.loop { rec .ready none with state := .busy })).heap[w.heap.size + 1]? = some (.loop { rec .ready none with state := .busy }) := World.putObj_heap_same hlt
      have hoth : ∀ k, k ≠ w.heap.size + 1 → (W.putObj (w.heap.size + 1) (.loop { rec .ready none with state := .busy })).heap[k]? = W.heap[k]? := fun k hk => World.putObj_heap_other hk
      have hbl : Below w.heap.size W (W.putObj (w.heap.size + 1) (.loop { rec .ready none with state := .busy })) := below_put W _ (by omega) hlt
      have hback := putObj_back (o' := .loop { rec .ready none with state := .busy }) hL
      have hR2 := hRdy gg c W _ hR hgne (hoth gg hgne)
      have hi2 := hI c _ _ hi hbl
      have hK2 := (hoth w.heap.size (by omega)).trans hK
      generalize W.putObj (w.heap.size + 1) (.loop { rec .ready none with state := .busy }) = W2 at *
      refine wpIn_mono (hbody _ gg c W2 hi2 hc hR2) ?_
      rintro e a3 W3 hp
      cases e with
      | normal =>
        obtain ⟨rfl, hi3⟩ := hp
        have hend := run_endRound (P := Try.prog) none hL2
        have hre : ({ rec .ready none with state := .busy } : Loop) = rec .busy none := by rw [hrec]
        have hre2 : ({ rec .busy none with state := if (none : Option Code).isNone = true then .ready else .done, pending := none } : Loop) = rec .ready none := by rw [hrec]; rfl
        rw [hre, hre2] at hend
        have hbb : Below w.heap.size W3 (W3.putObj (w.heap.size + 1) (.loop (rec .ready none))) := below_put W3 _ (by omega) (Array.getElem?_eq_some_iff.1 hL2).1
        have hi4 := hI (c + 1) _ _ hi3 hbb
        rw [hback] at hend hi4
        exact ⟨_, _, hend, .inl ⟨rfl, rfl, hi4, hL, hK⟩⟩
      | exit id =>
        obtain ⟨hk3, hi3⟩ := hp
        have hL3 := hk3.same _ _ hL2 rfl
        have hK3 := hk3.same _ _ hK2 rfl
        have hend := run_endRound (P := Try.prog) (some (.exit id)) hL3
        have hlt3 := (Array.getElem?_eq_some_iff.1 hL3).1
        refine ⟨_, _, hend, .inr ⟨rfl, id, hIx id _ _ hi3 (below_put W3 _ (by omega) hlt3), ?_, (World.putObj_heap_other (by omega)).trans hK3⟩⟩
        rw [World.putObj_heap_same hlt3, hrec]
        rfl
      | ret => exact hp.elim
      | goto t => exact hp.elim
      | panic ch => exact hp.elim
      | outgrown => exact hp.elim
    case fin =>
      rintro e W2 ⟨⟨v, rfl⟩, ⟨hi, hL, hK⟩ | ⟨id, hi, hL, hK⟩⟩
      · have hlt := (Array.getElem?_eq_some_iff.1 hL).1
        exact ⟨none, _, by have := run_endLoop (P := Try.prog) hL (by rw [hrec]; simp); rw [hrec] at this; exact this, hdone _ _ (Nat.le_refl _) (hI T _ _ hi (below_put W2 _ (by omega) hlt)) ((World.putObj_heap_other (by omega)).trans hK)⟩
      · have hlt := (Array.getElem?_eq_some_iff.1 hL).1
        exact ⟨some (.exit id), _, by have := run_endLoop (P := Try.prog) hL (by rw [hrec]; simp); rw [hrec] at this; exact this, hstop _ id _ (Nat.le_refl _) (hIx id _ _ hi (below_put W2 _ (by omega) hlt)) ((World.putObj_heap_other (by omega)).trans hK)⟩
end Go.Proofs.Ytnabomdadhgeeaa
