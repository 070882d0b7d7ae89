/- A range over a function, where a round goes on and may store into whatever lay ahead of it, or leaves the loop: the law by how many rounds there have been; and a region that draws, in a round, by the laws of the plain walk. -/
import Derived.Test.YtppllanmgdhabaaDeX
import Derived.Test.YtppllanmgdhabaaBaM
import Derived.RangeFuncNested
import Derived.RangeFuncBound
import Derived.RangeFuncCalls
import Derived.RangeFuncLeaves
import Derived.Shelf.Abstract
import Derived.Shelf.RegionOpen
import Derived.OwnWalkIn
import Derived.TacticsInMore
import Derived.LoopNIn
import Derived.LoopIn
import Derived.Deep.RegionHeld3
import Derived.OrdersIn
namespace Go.Proofs.Ytppllanmgdhabaa
open Go.RowKit Go.Deep Go.Shelf
/-- How a round's body ends: it goes on, or it leaves the loop. -/
def brkP (id : Nat) (I : Nat → World → Prop) (Ix : World → Prop) (c : Nat) (W : World) : Exit → Act → World → Prop
  | .normal, _, W' => I c W' ∧ KeepsOthers W W'
  | .exit i, _, W' => i = id ∧ Ix W' ∧ KeepsOthers W W'
  | _, _, _ => False
theorem brkP_on {id : Nat} {I : Nat → World → Prop} {Ix : World → Prop} {c : Nat} {W W' : World} {a : Act} (h : I c W') (hk : KeepsOthers W W') : brkP id I Ix c W .normal a W' := ⟨h, hk⟩
theorem brkP_out {id : Nat} {I : Nat → World → Prop} {Ix : World → Prop} {c : Nat} {W W' : World} {a : Act} (h : Ix W') (hk : KeepsOthers W W') : brkP id I Ix c W (.exit id) a W' := ⟨rfl, h, hk⟩
theorem range_brk {n n₀ gf T id : Nat} {g : Operand} {ps : Array Tmp} {assign body : Code} {Q : Exit → Act → World → Prop} {a : Act} {w : World} {lb : Array Value} {enc : Nat → Array Value}
    (hg : a.eval g = .func (.func gf) #[] lb) (eg : ∀ args w, (callFunc gf args).run Try.prog w = .ok (.enter gf args) w) (hps : ∀ c, (enc c).size = ps.size)
    (I : Nat → World → Prop) (Ix : World → Prop) (hn₀ : n₀ ≤ w.heap.size) (hI : ∀ c W W', I c W → Cl n₀ W W' → I c W') (hIx : ∀ W W', Ix W → Cl n₀ W W' → Ix W') (h0 : I 0 w)
    (hseq : ∀ (l : Nat) (J : Nat → World → Prop) (Jx : World → Prop) (W : World), (∀ c W W', J c W → Below W.heap.size W W' → J c W') → (∀ W W', Jx W → Below W.heap.size W W' → Jx W') → (∀ c W, J c W → I c W) →
      (∀ (m : Nat) (c : Nat) (W : World), J c W → c < T → YieldAt Fence.wide m Try.prog l (enc c) W fun e W' => (e = .returned (.bool true) ∧ J (c + 1) W') ∨ (e = .returned (.bool false) ∧ Jx W')) → J 0 W →
      CallsIn Fence.wide (n - 1) Try.prog gf (#[.func (.yield l) #[] #[]] ++ lb) W fun e W' => (∃ v, e = .returned v) ∧ (J T W' ∨ Jx W'))
    (a₁ : Nat → Act)
    (hassign : ∀ (l m : Nat) (c : Nat) (W : World) (K : Act → World → Prop), K (a₁ c) W →
      assign.wpIn (Fence.wide.inRound l) m Try.prog (Exit.then K (fun _ _ _ => False)) { tmps := (ps.zip (enc c)).foldl (fun t (p, v) => t.setIfInBounds p v) a.tmps, defers := [] } W)
    (hbody : ∀ (l m : Nat) (c : Nat) (W : World), I c W → c < T → body.wpIn (Fence.wide.inRound l) m Try.prog (brkP id I Ix (c + 1) W) (a₁ c) W)
    (hdone : ∀ (D : Nat) (W : World), w.heap.size ≤ D → I T W → W.heap[D]? = some (.deferred (some [])) → Q .normal { a with defers := mark D :: a.defers } W)
    (hstop : ∀ (D : Nat) (W : World), w.heap.size ≤ D → Ix W → W.heap[D]? = some (.deferred (some [])) → (Code.exit id).wpIn Fence.wide n Try.prog Q { a with defers := mark D :: a.defers } W) :
    (Code.rangeFunc g ps assign body).wpIn Fence.wide n Try.prog Q a w := by
  refine wpIn_rangeFunc ?_
  intro fn hfn
  obtain ⟨rec, hrec⟩ : ∃ rec : LoopState → Option Code → Loop, rec = fun st pe => { state := st, pending := pe, fn, tmps := a.tmps, params := ps, assign, body, defers := w.heap.size } := ⟨_, rfl⟩
  have hD1 := World.alloc_heap_new w (.deferred (some []))
  have hL1 := World.alloc_heap_new (w.alloc (.deferred (some []))) (.loop (rec .ready none))
  have hD2 := (Below.heap_alloc (w.alloc (.deferred (some []))) (.loop (rec .ready none)) w.heap.size (by simp)).trans hD1
  have hB1 := ((Below.refl w.heap.size w).alloc (Nat.le_refl _) (.deferred (some []))).alloc (by simp) (.loop (rec .ready none))
  rw [World.size_alloc] at hL1
  have henter := run_enterLoop_outer (P := Try.prog) (w := w) fn a.tmps ps assign body
  have hrd : (.loop { state := .ready, pending := none, fn, tmps := a.tmps, params := ps, assign, body, defers := w.heap.size } : Obj) = .loop (rec .ready none) := by rw [hrec]
  rw [hrd] at henter
  generalize (w.alloc (.deferred (some []))).alloc (.loop (rec .ready none)) = W1 at *
  refine ⟨w.heap.size + 1, [{ target := .collected w.heap.size, args := #[] }], W1, { target := .fn (.func gf) lb, args := #[.func (.yield (w.heap.size + 1)) #[] #[]] }, W1, gf, #[.func (.yield (w.heap.size + 1)) #[] #[]] ++ lb, W1, henter, ?_, fun _ _ => trivial, ?_, (fun h => by cases h), ?_⟩
  · simp only [resolve, hg]
    simp [go_sem]
  · simp [invoke, go_sem, eg]
  · refine (hseq (w.heap.size + 1)
      (fun c W => I c W ∧ W.heap[w.heap.size + 1]? = some (.loop (rec .ready none)) ∧ W.heap[w.heap.size]? = some (.deferred (some [])))
      (fun W => Ix W ∧ W.heap[w.heap.size + 1]? = some (.loop (rec .done (some (.exit id)))) ∧ W.heap[w.heap.size]? = some (.deferred (some [])))
      W1 ?ab ?abx (fun _ _ h => h.1) ?yields ⟨hI _ _ _ h0 (Cl.of_below hB1 hn₀), hL1, hD2⟩).mono ?fin
    case ab =>
      rintro c W W' ⟨hi, hL, hK⟩ hb
      have hlt := (Array.getElem?_eq_some_iff.1 hL).1
      exact ⟨hI _ _ _ hi (Cl.of_below hb (by omega)), (hb.block _ (Array.getElem?_eq_some_iff.1 hL).1).trans hL, (hb.block _ (Array.getElem?_eq_some_iff.1 hK).1).trans hK⟩
    case abx =>
      rintro W W' ⟨hi, hL, hK⟩ hb
      have hlt := (Array.getElem?_eq_some_iff.1 hL).1
      exact ⟨hIx _ _ hi (Cl.of_below hb (by omega)), (hb.block _ (Array.getElem?_eq_some_iff.1 hL).1).trans hL, (hb.block _ (Array.getElem?_eq_some_iff.1 hK).1).trans hK⟩
    case yields =>
      rintro m c W ⟨hi, hL, hK⟩ hc
      have hlt : w.heap.size + 1 < W.heap.size := (Array.getElem?_eq_some_iff.1 hL).1
      have hy := run_yield (P := Try.prog) (args := enc c) hL (by rw [hrec]; exact hps c)
      rw [hrec] at hy
      refine ⟨fn, _, assign, body, hy, roundIn_of_wpIn hfn (hassign _ m c W _ ?_)⟩
      clear hy
      refine ⟨_, run_beginRound hL (by rw [hrec]), ?_⟩
      have hL2 : (W.putObj (w.heap.size + 1) (.loop { rec .ready none with state := .busy })).heap[w.heap.size + 1]? = some (.loop { rec .ready none with state := .busy }) := World.putObj_heap_same hlt
      have hK2 : (W.putObj (w.heap.size + 1) (.loop { rec .ready none with state := .busy })).heap[w.heap.size]? = some (.deferred (some [])) := (World.putObj_heap_other (by omega)).trans hK
      have hi2 := hI _ _ _ hi (Cl.put (.loop { rec .ready none with state := .busy }) hL rfl (by omega))
      generalize W.putObj (w.heap.size + 1) (.loop { rec .ready none with state := .busy }) = W2 at *
      refine wpIn_mono (hbody _ m c W2 hi2 hc) ?_
      rintro e a3 W3 hp
      cases e with
      | normal =>
        obtain ⟨hi3, hk⟩ := hp
        have hL3 := hk.same _ _ hL2 rfl
        have hK3 := hk.same _ _ hK2 rfl
        have hlt3 := (Array.getElem?_eq_some_iff.1 hL3).1
        have hend := run_endRound (P := Try.prog) none hL3
        have hre : ({ rec .ready none with state := .busy } : Loop) = rec .busy none := by rw [hrec]
        have hre2 : ({ rec .busy none with state := if (none : Option Code).isNone = true then .ready else .done, pending := none } : Loop) = rec .ready none := by rw [hrec]; rfl
        rw [hre] at hL3
        rw [hre, hre2] at hend
        exact ⟨_, _, hend, .inl ⟨rfl, hI _ _ _ hi3 (Cl.put _ hL3 rfl (by omega)), World.putObj_heap_same hlt3, (World.putObj_heap_other (by omega)).trans hK3⟩⟩
      | exit i =>
        obtain ⟨rfl, hi3, hk⟩ := hp
        have hL3 := hk.same _ _ hL2 rfl
        have hK3 := hk.same _ _ hK2 rfl
        have hlt3 := (Array.getElem?_eq_some_iff.1 hL3).1
        have hend := run_endRound (P := Try.prog) (some (.exit i)) hL3
        refine ⟨_, _, hend, .inr ⟨rfl, hIx _ _ hi3 (Cl.put _ hL3 rfl (by omega)), ?_, (World.putObj_heap_other (by omega)).trans hK3⟩⟩
        rw [World.putObj_heap_same hlt3, hrec]
        rfl
      | ret => exact hp.elim
      | goto t => exact hp.elim
      | panic ch => exact hp.elim
      | outgrown => exact hp.elim
    case fin =>
      rintro e W2 ⟨⟨v, rfl⟩, ⟨hi, hL, hK⟩ | ⟨hi, hL, hK⟩⟩
      · obtain ⟨o, hend⟩ : ∃ o, (Instr.endLoop (w.heap.size + 1)).run Try.prog W2 = .ok none (W2.putObj (w.heap.size + 1) o) := by
          have h := run_endLoop (P := Try.prog) hL (by rw [hrec]; simp)
          have hre : (rec .ready none).pending = none := by rw [hrec]
          rw [hre] at h
          exact ⟨_, h⟩
        refine ⟨none, _, hend, ?_⟩
        exact hdone w.heap.size _ (Nat.le_refl _) (hI _ _ _ hi (Cl.put _ hL rfl (by omega))) ((World.putObj_heap_other (by omega)).trans hK)
      · obtain ⟨o, hend⟩ : ∃ o, (Instr.endLoop (w.heap.size + 1)).run Try.prog W2 = .ok (some (.exit id)) (W2.putObj (w.heap.size + 1) o) := by
          have h := run_endLoop (P := Try.prog) hL (by rw [hrec]; simp)
          have hre : (rec .done (some (.exit id))).pending = some (.exit id) := by rw [hrec]
          rw [hre] at h
          exact ⟨_, h⟩
        refine ⟨some (.exit id), _, hend, ?_⟩
        exact hstop w.heap.size _ (Nat.le_refl _) (hIx _ _ hi (Cl.put _ hL rfl (by omega))) ((World.putObj_heap_other (by omega)).trans hK)
/-- The same for two variables that are set from the parameters at once. -/
theorem range_brk2 {n n₀ gf T id p q p2 q2 : Nat} {g : Operand} {assign body : Code} {Q : Exit → Act → World → Prop} {a : Act} {w : World} {lb : Array Value} {e1 e2 : Nat → Value}
    (hg : a.eval g = .func (.func gf) #[] lb) (eg : ∀ args w, (callFunc gf args).run Try.prog w = .ok (.enter gf args) w)
    (I : Nat → World → Prop) (Ix : World → Prop) (hn₀ : n₀ ≤ w.heap.size) (hI : ∀ c W W', I c W → Cl n₀ W W' → I c W') (hIx : ∀ W W', Ix W → Cl n₀ W W' → Ix W') (h0 : I 0 w)
    (hseq : ∀ (l : Nat) (J : Nat → World → Prop) (Jx : World → Prop) (W : World), (∀ c W, J c W → I c W) →
      (∀ (m : Nat) (c : Nat) (W : World), J c W → c < T → YieldAt Fence.wide m Try.prog l #[e1 c, e2 c] W fun e W' => (e = .returned (.bool true) ∧ J (c + 1) W') ∨ (e = .returned (.bool false) ∧ Jx W')) → J 0 W →
      CallsIn Fence.wide (n - 1) Try.prog gf (#[.func (.yield l) #[] #[]] ++ lb) W fun e W' => (∃ v, e = .returned v) ∧ (J T W' ∨ Jx W'))
    (hassign : ∀ (l m : Nat) (c : Nat) (W : World) (K : Act → World → Prop), K { tmps := (((a.tmps.setIfInBounds p (e1 c)).setIfInBounds q (e2 c)).setIfInBounds p2 (e1 c)).setIfInBounds q2 (e2 c), defers := [] } W →
      assign.wpIn (Fence.wide.inRound l) m Try.prog (Exit.then K (fun _ _ _ => False)) { tmps := (a.tmps.setIfInBounds p (e1 c)).setIfInBounds q (e2 c), defers := [] } W)
    (hbody : ∀ (l m : Nat) (c : Nat) (W : World), I c W → c < T → body.wpIn (Fence.wide.inRound l) m Try.prog (brkP id I Ix (c + 1) W) { tmps := (((a.tmps.setIfInBounds p (e1 c)).setIfInBounds q (e2 c)).setIfInBounds p2 (e1 c)).setIfInBounds q2 (e2 c), defers := [] } W)
    (hdone : ∀ (D : Nat) (W : World), w.heap.size ≤ D → I T W → W.heap[D]? = some (.deferred (some [])) → Q .normal { a with defers := mark D :: a.defers } W)
    (hstop : ∀ (D : Nat) (W : World), w.heap.size ≤ D → Ix W → W.heap[D]? = some (.deferred (some [])) → (Code.exit id).wpIn Fence.wide n Try.prog Q { a with defers := mark D :: a.defers } W) :
    (Code.rangeFunc g #[p, q] assign body).wpIn Fence.wide n Try.prog Q a w := by
  have et : ∀ c, (#[p, q].zip #[e1 c, e2 c]).foldl (fun t (p, v) => t.setIfInBounds p v) a.tmps = (a.tmps.setIfInBounds p (e1 c)).setIfInBounds q (e2 c) := fun c => by simp
  refine range_brk (enc := fun c => #[e1 c, e2 c]) hg eg (fun _ => rfl) I Ix hn₀ hI hIx h0 (fun l J Jx W _ _ h3 h4 h5 => hseq l J Jx W h3 h4 h5) _ (fun l m c W K hK => ?_) hbody hdone hstop
  show assign.wpIn (Fence.wide.inRound l) m Try.prog (Exit.then K (fun _ _ _ => False)) { tmps := (#[p, q].zip #[e1 c, e2 c]).foldl (fun t (p, v) => t.setIfInBounds p v) a.tmps, defers := [] } W
  rw [et]
  exact hassign l m c W K hK
end Go.Proofs.Ytppllanmgdhabaa
