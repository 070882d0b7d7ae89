/- Contracts of places and of what it hands back; one number more, in a round; what holds between two rounds of List. -/
import Derived.Test.YtppllanmgdhabaaRgA
import Derived.Test.YtppllanmgdhabaaTaA
import Derived.Test.YtppllanmgdhabaaInM
namespace Go.Proofs.Ytppllanmgdhabaa
open Go.RowKit Go.Deep Go.Shelf
attribute [local go_sem] Oper.semAt_some
set_option maxRecDepth 100000 in
theorem places_any (x k : Int) (w : World) : Calls Try.prog 48 #[.int .u64 x, .int .i64 k] w fun e w' => e = .returned (.func (.func 74) #[] #[.pointer (some ⟨w.heap.size + 1, 0, none⟩), .pointer (some ⟨w.heap.size, 0, none⟩)]) ∧ w' = (w.alloc (.cells #[.int .u64 x] 26)).alloc (.cells #[.int .i64 k] 3) := by
  go_enter Try.func48, Try.ntmps48
  go_wp2
  go_ret
  exact ⟨by simp, rfl⟩
set_option maxRecDepth 100000 in
theorem places_at (x k : Int) (w : World) : Calls Try.prog 48 #[.int .u64 x, .int .i64 k] w fun e w' => e = .returned (.func (.func 74) #[] #[.pointer (some ⟨w.heap.size + 1, 0, none⟩), .pointer (some ⟨w.heap.size, 0, none⟩)]) ∧ Boxed w' w.heap.size 26 (.int .u64 x) ∧ Boxed w' (w.heap.size + 1) 3 (.int .i64 k) ∧ w'.heap.size = w.heap.size + 2 ∧ Below w.heap.size w w' := by
  refine (places_any x k w).mono ?_
  rintro _ _ ⟨rfl, rfl⟩
  have h2 := Boxed.new (w.alloc (.cells #[.int .u64 x] 26)) 3 (.int .i64 k)
  rw [World.size_alloc] at h2
  exact ⟨rfl, (Boxed.new w 26 (.int .u64 x)).alloc _, h2, by simp, ((Below.refl w.heap.size w).alloc (Nat.le_refl _) _).alloc (by simp) _⟩
set_option maxRecDepth 100000 in
set_option maxHeartbeats 2000000 in
theorem places1_in (n l a b T : Nat) (h : Int) (hT : T ≤ 16) (J : Nat → World → Prop) (Jx : World → Prop) (hI : ∀ c W, J c W → W.cell? ⟨a, 0, none⟩ = some (.int .i64 T) ∧ W.cell? ⟨b, 0, none⟩ = some (.int .u64 h))
    (hY : ∀ (m : Nat) (c : Nat) (W : World), J c W → c < T → YieldAt Fence.wide m Try.prog l #[.int .i64 c, .int .u64 ((h + c) % 18446744073709551616)] W fun e W' => (e = .returned (.bool true) ∧ J (c + 1) W') ∨ (e = .returned (.bool false) ∧ Jx W'))
    (W : World) (h0 : J 0 W) :
    CallsIn Fence.wide n Try.prog 74 #[.func (.yield l) #[] #[], .pointer (some ⟨a, 0, none⟩), .pointer (some ⟨b, 0, none⟩)] W fun e W' => (∃ v, e = .returned v) ∧ (J T W' ∨ Jx W') := by
  refine callsIn_of_wp Try.func74 rfl trivial ?_ rfl
  simp only [Try.ntmps74, List.size_toArray, List.length_cons, List.length_nil, Nat.reduceAdd, Nat.reduceSub, Array.replicate_succ, Array.replicate_zero, List.push_toArray, List.append_toArray, List.nil_append, List.cons_append]
  have c0 := (hI _ _ h0).1
  gi_wp2
  gi_loopw [6] (fun p wr => ∃ k : Nat, p = .int .i64 k ∧ k ≤ T ∧ J k wr) (fun p _ => T - (intOf p).toNat)
  case atStart =>
    exact ⟨0, rfl, by omega, h0⟩
  case round =>
    clear c0 h0
    obtain ⟨k, rfl, hk, hJ⟩ := hrel
    by_cases hkT : k = T
    · subst hkT
      gi_wp2
      go_end0
      exact ⟨⟨_, rfl⟩, .inl hJ⟩
    · have hlt : (k : Int) < (T : Int) := by omega
      have c1 := (hI _ _ hJ).2
      have e1 : IntKind.u64.wrap (k : Int) = (k : Int) := by rw [IntKind.wrap_u64]; omega
      have e2 : IntKind.u64.wrap (h + (k : Int)) = (h + (k : Int)) % 18446744073709551616 := IntKind.wrap_u64 _
      obtain ⟨fn, tmps, assign, body, hy, hR⟩ := hY (n - 1) k wr hJ (by omega)
      gi_wp2
      refine ⟨(fun h => by cases h), ?_⟩
      refine hR.mono ?_
      rintro e W3 (⟨rfl, hJ3⟩ | ⟨rfl, hJx3⟩)
      · gi_wp2
        go_roundw
        case rel => exact ⟨k + 1, by simp, by omega, hJ3⟩
        case measure => simp only [intOf]; omega
      · gi_wp2
        refine bodyPost_ret (results_none rfl _ _ _) rfl ?_
        exact ⟨⟨_, rfl⟩, .inr hJx3⟩
def lnotDefer (o : Oper) : Bool := match o.op with
  | .defer _ => false
  | _ => true
set_option maxRecDepth 100000 in
theorem lno_defer {ops : Array Oper} (h : ops.all lnotDefer = true) : ∀ (i : Nat) o, ops[i]? = some o → ∀ c, o.op ≠ .defer c := by
  intro i o ho c hc
  have hm := Array.all_eq_true.1 h i (Array.getElem?_eq_some_iff.1 ho).1
  rw [(Array.getElem?_eq_some_iff.1 ho).2] at hm
  unfold lnotDefer at hm
  rw [hc] at hm
  cases hm
set_option maxRecDepth 100000 in
theorem own_nil (w : World) (base : Nat) : Own w base none 0 0 [] := ⟨rfl, .inl ⟨rfl, rfl⟩⟩
set_option maxRecDepth 100000 in
theorem Own.kept {w w' : World} {base : Nat} {A : Option Addr} {n c : Nat} {l : List Int} (h : Own w base A n c l) (hk : ∀ k, (Value.slice A n c).ownBlock = some k → w'.heap[k]? = w.heap[k]?) : Own w' base A n c l := by
  refine ⟨h.1, ?_⟩
  rcases h.2 with h2 | ⟨g, cap, cur, hv, hbg, hg, hr⟩
  · exact .inl h2
  · exact .inr ⟨g, cap, cur, hv, hbg, (hk g (by rw [hv]; rfl)).trans hg, hr⟩
set_option maxRecDepth 100000 in
theorem Own.cells {w : World} {base : Nat} {A : Option Addr} {n c : Nat} {l : List Int} (h : Own w base A n c l) {k : Nat} (hk : (Value.slice A n c).ownBlock = some k) : ∃ o, w.heap[k]? = some o ∧ o.isCells = true := by
  rcases h.2 with ⟨h2, _⟩ | ⟨g, cap, cur, hv, hbg, hg, hr⟩
  · rw [h2] at hk; cases hk
  · rw [hv] at hk; cases hk; exact ⟨_, hg, rfl⟩
set_option maxRecDepth 100000 in
theorem Own.cl {w w' : World} {n₀ base : Nat} {A : Option Addr} {n c : Nat} {l : List Int} (h : Own w base A n c l) (hc : Cl n₀ w w') : Own w' base A n c l := h.kept fun k hk => by
  obtain ⟨o, e1, e2⟩ := h.cells hk
  rw [hc.same k o e1 e2, e1]
set_option maxRecDepth 100000 in
/-- One number more: what runs, what it leaves, and that nothing but cells turns. -/
theorem app_keeps {w : World} {base : Nat} {A : Option Addr} {n c : Nat} {l : List Int} (ho : Own w base A n c l) (x : Int) {ad : Addr} (d : Nat) (hx : w.cell? ad = some (.int .u64 x)) (hs : n + 1 ≤ 1000000) (hb : base ≤ w.heap.size) :
    ∃ A' c' w', (Builtin.append_ #[24, 24] 24 #[.slice A n c, .slice (some ad) 1 d]).run Try.prog w = .ok (.slice A' (n + 1) c') w' ∧ Own w' base A' (n + 1) c' (l ++ [x]) ∧ Below base w w' ∧ KeepsOthers w w' := by
  obtain ⟨i0, hi0, hz⟩ := Option.map_eq_some_iff.1 Try.info26
  simp only [Prod.mk.injEq] at hz
  obtain ⟨hz0, hz1, hz2⟩ := hz
  obtain ⟨v', w', hrun, h2, h3, _, h5⟩ := run_append_own_at (P := Try.prog) w base 24 24 26 i0 (.int .u64 0) 1 8 Try.underlying24 hi0 hz0 hz1 hz2 rfl (by omega) _ n _ ho ad 1 d [.int .u64 x] rfl
    (fun j u hu => by
      obtain ⟨rfl, rfl⟩ : j = 0 ∧ Value.int .u64 x = u := by
        cases j with
        | zero => simpa using hu
        | succ j => simp at hu
      have : ad.add 0 = ad := by simp [Addr.add]
      rw [this]; exact hx) (fun u hu => by simp at hu; subst hu; rfl) (by simp only [maxLen]; omega) (by omega) hb
  obtain ⟨A', c', rfl, h6⟩ : ∃ A' c', v' = .slice A' (n + 1) c' ∧ Own w' base A' (n + 1) c' (l ++ [x]) := by
    rcases h2.2 with ⟨rfl, hx⟩ | ⟨g, cap, cur, rfl, hr⟩
    · simp at hx
    · exact ⟨_, cap, rfl, by unfold Own; rw [List.map_append]; exact h2⟩
  refine ⟨A', c', w', hrun, h6, (Below.refl base w).grown h3 hb (fun j hj => (World.ownsRow.lt ho j hj).1), h3.size, fun k o hk hn => ?_⟩
  refine (h3.block k (Array.getElem?_eq_some_iff.1 hk).1 (fun e => ?_)).trans hk
  obtain ⟨o', e1, e2⟩ := ho.cells e.symm
  rw [hk] at e1
  cases e1
  rw [hn] at e2
  cases e2
set_option maxRecDepth 100000 in
/-- The same, as one step of a region that draws. -/
theorem step_app1 {ops : Array Oper} {o : Oper} {a : Act} {w : World} {K : Act → World → Prop} {Q : Exit → Act → World → Prop} {E : Prop} {A : Option Addr} {ad : Addr} {base n c d : Nat} {l : List Int} {x : Int}
    (ho : ∃ s y, o.op = .call { callee := .builtin .append, args := #[s, y], argTypes := #[24, 24] } ∧ a.eval s = .slice A n c ∧ a.eval y = .slice (some ad) 1 d) (hu : o.type = 24) (hg : o.guard = none)
    (hO : Own w base A n c l) (hx : w.cell? ad = some (.int .u64 x)) (hs : n + 1 ≤ 1000000) (hb : base ≤ w.heap.size)
    (hK : ∀ A' c' w', Own w' base A' (n + 1) c' (l ++ [x]) → Below base w w' → KeepsOthers w w' → K (a.put o.dst (.slice A' (n + 1 : Nat) c')) w') :
    if Region.wanted o (yielded ops a.tmps) = true then Oper.wp Try.prog o a w K Q else E := by
  obtain ⟨A', c', w', hrun, h1, h2, h3⟩ := app_keeps hO x d hx hs hb
  obtain ⟨s, y, hop, e1, e2⟩ := ho
  have hw : Region.wanted o (yielded ops a.tmps) = true := by simp [Region.wanted, hg]
  rw [if_pos hw]
  unfold Oper.wp
  simp [execOp, hop, resolve, invoke, builtin, e1, e2, hu, hrun, Result.andThen]
  exact hK _ _ _ h1 h2 h3
set_option maxRecDepth 100000 in
theorem lboxed_cl {n₀ : Nat} {w w' : World} {b : Nat} {t : TypeId} {v : Value} (h : Boxed w b t v) (hc : Cl n₀ w w') : Boxed w' b t v := hc.same b _ h rfl
/-- What holds between two rounds: the boxes, the list so far, in a row of its own from block n₁ on. -/
structure RL (w : World) (n₁ : Nat) (W D J S : Int) (A : Option Addr) (k c : Nat) (N h : Int) (b6 s : Nat) (l : List Int) (R : Option Addr) (d : Nat) (Wd : World) : Prop where
  conf : Wd.heap[w.heap.size]? = some (.cells #[.int .i64 W, .int .i64 D, .int .i64 J, .int .i64 S] 23 (0, 0))
  mem : Boxed Wd (w.heap.size + 1) 25 (.slice A k c)
  many : Boxed Wd b6 3 (.int .i64 N)
  list : Boxed Wd (b6 + 1) 24 (.slice R l.length d)
  own : Own Wd n₁ R l.length d l
  is_ : Boxed Wd (b6 + 1 + 1) 4 (.bool true)
  from_ : Boxed Wd s 26 (.int .u64 h)
  upto : Boxed Wd (s + 1) 3 (.int .i64 J)
  be : Below w.heap.size w Wd
  ls : n₁ ≤ Wd.heap.size
set_option maxRecDepth 100000 in
theorem RL.cl {w : World} {n₁ : Nat} {W D J S : Int} {A : Option Addr} {k c : Nat} {N h : Int} {b6 s : Nat} {l : List Int} {R : Option Addr} {d : Nat} {Wd W' : World} (r : RL w n₁ W D J S A k c N h b6 s l R d Wd) (hc : Cl w.heap.size Wd W') : RL w n₁ W D J S A k c N h b6 s l R d W' :=
  ⟨hc.same _ _ r.conf rfl, lboxed_cl r.mem hc, lboxed_cl r.many hc, lboxed_cl r.list hc, r.own.cl hc, lboxed_cl r.is_ hc, lboxed_cl r.from_ hc, lboxed_cl r.upto hc, r.be.trans hc.low, Nat.le_trans r.ls hc.size⟩
set_option maxRecDepth 100000 in
theorem RL.bx {w : World} {n₁ : Nat} {W D J S : Int} {A : Option Addr} {k c : Nat} {N h : Int} {b6 s : Nat} {l : List Int} {R : Option Addr} {d : Nat} {Wd : World} (r : RL w n₁ W D J S A k c N h b6 s l R d Wd) : Bx Wd w.heap.size W D J S := by
  refine ⟨(Array.getElem?_eq_some_iff.1 r.conf).1, ?_, ?_, ?_, ?_⟩ <;> (rw [cell_of_row Wd _ _ _ _ _ r.conf]; rfl)
set_option maxRecDepth 100000 in
/-- What an append and the store of its row leave. -/
theorem RL.more {w : World} {n₁ : Nat} {W D J S : Int} {A : Option Addr} {k c : Nat} {N h : Int} {b6 s : Nat} {l : List Int} {R R' : Option Addr} {d d' : Nat} {Wd W' : World} {x : Int} (r : RL w n₁ W D J S A k c N h b6 s l R d Wd) (hb6 : w.heap.size + 1 < b6) (hs : b6 + 1 + 1 < s) (hn : s + 1 < n₁)
    (hb : Below n₁ Wd W') (ho : Own W' n₁ R' (l.length + 1) d' (l ++ [x])) : RL w n₁ W D J S A k c N h b6 s (l ++ [x]) R' d' (W'.setCell ⟨b6 + 1, 0, none⟩ (.slice R' (l.length + 1) d')) := by
  have hl : (l ++ [x]).length = l.length + 1 := by simp
  have hk : ∀ j, j < n₁ → j ≠ b6 + 1 → (W'.setCell ⟨b6 + 1, 0, none⟩ (.slice R' (l.length + 1) d')).heap[j]? = Wd.heap[j]? := fun j h1 h2 => (Below.heap_setCell _ ⟨b6 + 1, 0, none⟩ _ j h2).trans (hb.block j h1)
  refine ⟨(hk _ (by omega) (by omega)).trans r.conf, (hk _ (by omega) (by omega)).trans r.mem, (hk _ (by omega) (by omega)).trans r.many, ?_, ?_, (hk _ (by omega) (by omega)).trans r.is_, (hk _ (by omega) (by omega)).trans r.from_, (hk _ (by omega) (by omega)).trans r.upto, ?_, ?_⟩
  · rw [hl]; exact Boxed.set _ ((hb.block _ (by omega)).trans r.list)
  · rw [hl]; exact ho.kept fun j hj => Below.heap_setCell _ ⟨b6 + 1, 0, none⟩ _ j (show j ≠ b6 + 1 by have := (World.ownsRow.lt ho j hj).1; omega)
  · exact (r.be.trans (hb.mono (by omega))).setCell (p := ⟨b6 + 1, 0, none⟩) (show w.heap.size ≤ b6 + 1 by omega) _
  · have := Nat.le_trans r.ls (show Wd.heap.size ≤ W'.heap.size from hb.size); simpa using this
end Go.Proofs.Ytppllanmgdhabaa
