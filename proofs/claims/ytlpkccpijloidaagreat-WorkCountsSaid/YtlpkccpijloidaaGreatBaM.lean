/- Merged: Base, Mem, WordM, WordA. -/
import Derived.Test.YtlpkccpijloidaaGreatRows
import Derived.WalkKit
import Derived.WalkSpells
import Derived.WalkLawsBesides
import Derived.Laws.CopyOwn
import Derived.Lib.Hide
import Derived.Deep.Draws
import Derived.Deep.OwnRows
import Derived.RegionTactic
import Derived.Deep.RegionHeld3
import Derived.IntWalk
import Derived.OpenShut
import Derived.Deep.QuietTactic
import Derived.BigQuiet
import Derived.Maps.AppendAt
import Derived.Laws.BitsAllLaws
import Derived.Laws.BitsLemmas
namespace Go.Proofs.YtlpkccpijloidaaGreat
set_option maxRecDepth 100000
open Go.RowKit Go.Deep
/-- A call that yields a value and leaves the world. -/
abbrev Gives (f : FuncId) (args : Array Value) (w : World) (v : Value) : Prop := Calls Tryz.prog f args w fun e w' => e = .returned v ∧ w' = w
/-- A call that yields a value and writes nothing that was there. -/
abbrev Tells (f : FuncId) (args : Array Value) (w : World) (v : Value) : Prop := Calls Tryz.prog f args w fun e w' => e = .returned v ∧ Below w.heap.size w w'
theorem Gives.of {f : FuncId} {args : Array Value} {w : World} {v v' : Value} (h : Gives f args w v) (e : v = v') : Gives f args w v' := by rw [← e]; exact h
theorem Tells.of {f : FuncId} {args : Array Value} {w : World} {v v' : Value} (h : Tells f args w v) (e : v = v') : Tells f args w v' := by rw [← e]; exact h
theorem Gives.tells {f : FuncId} {args : Array Value} {w : World} {v : Value} (h : Gives f args w v) : Tells f args w v := h.mono fun _ _ ⟨e, ew⟩ => ⟨e, ew ▸ Below.refl _ _⟩
/-- A number of 64 bits. -/
def U (a : Int) : Prop := 0 ≤ a ∧ a < 18446744073709551616
theorem u_of {n : Int} (h : (Lit.int .u64 n).wf = true) : U n := by have := bounds_u64 h; unfold U; omega
/-- A number of 64 bits with a sign. -/
def I (a : Int) : Prop := -9223372036854775808 ≤ a ∧ a ≤ 9223372036854775807
theorem i_of {n : Int} (h : (Lit.int .i64 n).wf = true) : I n := by have := bounds_i64 h; unfold I; omega
theorem below_drewN (w : World) (q : Nat) : Below w.heap.size w (w.drewN q) := ⟨rfl, rfl, rfl, Nat.le_refl _, fun _ _ => rfl⟩
theorem keep_call {w2 w w' : World} (hc : Below w.heap.size w w') (h : Below w2.heap.size w2 w) : Below w2.heap.size w2 w' := h.trans (hc.mono h.size)
end Go.Proofs.YtlpkccpijloidaaGreat
namespace Go.Proofs.YtlpkccpijloidaaGreat
set_option maxRecDepth 100000
open Go.RowKit Go.Deep
/-- The slice at address A reads as the numbers l. -/
def Rd (w : World) (A : Option Addr) (l : List Int) : Prop :=
  0 < l.length → ∃ ad, A = some ad ∧ ad.block < w.heap.size ∧ ∀ j u, l[j]? = some u → w.cell? (ad.add j) = some (.int .u64 u)
/-- Block g is just these numbers, not frozen. -/
def Bk (w : World) (g : Nat) (l : List Int) : Prop := w.heap[g]? = some (.cells (l.map (Value.int .u64)).toArray 28 (0, 0))
theorem Tryz.info28 : (Tryz.prog.info? 28).map (fun i => (i.zero, i.size, i.bytes)) = some (some (.int .u64 0), 1, 8) := by kernel_rfl
theorem Tryz.size28 : (Tryz.prog.info? 28).map (·.size) = some 1 := by kernel_rfl
theorem Rd.below {w w' : World} {A : Option Addr} {l : List Int} (h : Rd w A l) (hb : Below w.heap.size w w') : Rd w' A l := fun hp => by
  obtain ⟨ad, e, hlt, hc⟩ := h hp
  exact ⟨ad, e, Nat.lt_of_lt_of_le hlt hb.size, fun j u hu => (hb.cell (p := ad.add j) (by unfold Addr.add; split <;> exact hlt)).trans (hc j u hu)⟩
theorem Bk.lt {w : World} {g : Nat} {l : List Int} (h : Bk w g l) : g < w.heap.size := by
  rcases Nat.lt_or_ge g w.heap.size with hlt | hge
  · exact hlt
  · unfold Bk at h; rw [Array.getElem?_eq_none hge] at h; cases h
theorem Bk.cell {w : World} {g : Nat} {l : List Int} (h : Bk w g l) (k : Nat) (u : Int) (hu : l[k]? = some u) : w.cell? ⟨g, k, none⟩ = some (.int .u64 u) := by
  have := cell_of_row w g k _ 28 (0, 0) h
  rw [this]; simp [hu]
theorem Bk.frozen {w : World} {g : Nat} {l : List Int} (h : Bk w g l) (i : Nat) : w.frozen? ⟨g, i, none⟩ = false := by
  unfold Bk at h
  simp [World.frozen?, h]
theorem add_zero' (g k : Nat) : (⟨g, 0, none⟩ : Addr).add k = ⟨g, k, none⟩ := by
  unfold Addr.add; split
  · rename_i h; simp_all
  · simp
theorem Bk.rd {w : World} {g : Nat} {l : List Int} (h : Bk w g l) : Rd w (some ⟨g, 0, none⟩) l := fun _ =>
  ⟨_, rfl, h.lt, fun j u hu => by rw [add_zero']; exact h.cell j u hu⟩
theorem Bk.set {w : World} {g : Nat} {l : List Int} (h : Bk w g l) (k : Nat) (u : Int) : Bk (w.setCell ⟨g, k, none⟩ (.int .u64 u)) g (l.set k u) := by
  unfold Bk at h ⊢
  simp [World.setCell, Array.getElem?_modify, h, List.map_set]
theorem Bk.alloc {w : World} {g : Nat} {l : List Int} (h : Bk w g l) (o : Obj) : Bk (w.alloc o) g l := (Below.heap_alloc w o g h.lt).trans h
theorem Bk.below {w w' : World} {g B : Nat} {l : List Int} (h : Bk w g l) (hb : Below B w w') (hg : g < B) : Bk w' g l := (hb.block g hg).trans h
theorem block_add (a : Addr) (n : Nat) : (a.add n).block = a.block := by unfold Addr.add; split <;> rfl
/-- The slice owns the numbers l, in a block from number 'base' on. -/
def Own (w : World) (base : Nat) (A : Option Addr) (n c : Nat) (l : List Int) : Prop := w.ownsRow base 28 1 (.slice A n c) n (l.map (Value.int .u64))
theorem Own.len {w : World} {base : Nat} {A : Option Addr} {n c : Nat} {l : List Int} (h : Own w base A n c l) : l.length = n := by
  have := h.1
  simpa using this
theorem Own.rd {w : World} {base : Nat} {A : Option Addr} {n c : Nat} {l : List Int} (h : Own w base A n c l) : Rd w A l := fun hp => by
  rcases h.2 with ⟨hv, hx⟩ | ⟨g, cap, cur, hv, hb, hg, _⟩
  · have := h.len; omega
  · injection hv with hA _ _
    subst hA
    refine ⟨_, rfl, (Array.getElem?_eq_some_iff.1 hg).1, fun j u hu => ?_⟩
    exact World.ownsRow.cells h (g := g) rfl j _ (by simp [hu])
theorem Own.set {w : World} {base : Nat} {A : Option Addr} {n c : Nat} {l : List Int} (h : Own w base A n c l) {k : Nat} (hk : k < n) :
    ∃ g u, A = some ⟨g, 0, none⟩ ∧ base ≤ g ∧ w.cell? ⟨g, k, none⟩ = some (.int .u64 u) ∧ w.frozen? ⟨g, k, none⟩ = false ∧ ∀ v, Own (w.setCell ⟨g, k, none⟩ (.int .u64 v)) base A n c (l.set k v) := by
  have hl := h.len
  rcases h.2 with ⟨hv, hx⟩ | ⟨g, cap, cur, hv, hb, hg, hr⟩
  · omega
  · injection hv with hA _ hc
    subst hA
    subst hc
    refine ⟨g, l[k]'(by omega), rfl, hb, ?_, ?_, fun v => ⟨by simp [hl], .inr ⟨g, c, cur.setIfInBounds k (.int .u64 v), rfl, hb, ?_, ?_⟩⟩⟩
    · have := World.ownsRow.cells h (g := g) rfl k (.int .u64 (l[k]'(by omega))) (by simp [show k < l.length by omega])
      rw [add_zero'] at this
      exact this
    · simp [World.frozen?, hg]
    · simp [World.setCell, Array.getElem?_modify, hg]
    · obtain ⟨h1, h2, h3, h4⟩ := hr
      refine ⟨h1, h2, by simpa using h3, ?_⟩
      simp only [Array.toList_setIfInBounds, List.take_set, h4, List.map_set]
theorem run_app_t (t : TypeId) (ht : Tryz.prog.underlying t = some (.slice 28)) {w : World} {base : Nat} {A : Option Addr} {n c : Nat} {l : List Int} (ho : Own w base A n c l) {B : Option Addr} {m : Nat} (d : Nat) {k : List Int} (hk : Rd w B k) (hm : k.length = m) (hs : n + m ≤ 1000000) (hb : base ≤ w.heap.size) :
    ∃ A' c' w', (Builtin.append_ #[t, t] t #[.slice A n c, .slice B m d]).run Tryz.prog w = .ok (.slice A' (n + m) c') w' ∧ Own w' base A' (n + m) c' (l ++ k) ∧ Below base w w' := by
  obtain ⟨i0, hi0, hz⟩ := Option.map_eq_some_iff.1 Tryz.info28
  simp only [Prod.mk.injEq] at hz
  obtain ⟨hz0, hz1, hz2⟩ := hz
  have fin : ∀ v' w', w'.ownsRow base 28 1 v' (n + m) (l.map (Value.int .u64) ++ k.map (Value.int .u64)) → ∃ A' c', v' = .slice A' (n + m) c' ∧ Own w' base A' (n + m) c' (l ++ k) := by
    intro v' w' h'
    rcases h'.2 with ⟨rfl, hx⟩ | ⟨g, cap, cur, rfl, hr⟩
    · have h0 : n + m = 0 := hx
      rw [h0] at h'
      exact ⟨none, 0, by rw [h0], by rw [h0]; unfold Own; rw [List.map_append]; exact h'⟩
    · exact ⟨_, cap, rfl, by unfold Own; rw [List.map_append]; exact h'⟩
  rcases B with _ | ad
  · have h0 : m = 0 := by
      rcases Nat.eq_zero_or_pos m with h | h
      · exact h
      · obtain ⟨_, h, _⟩ := hk (by omega)
        cases h
    subst h0
    obtain rfl : k = [] := List.eq_nil_of_length_eq_zero hm
    refine ⟨A, c, w, ?_, by simpa using ho, Below.refl _ _⟩
    rcases ho.2 with ⟨hv, _⟩ | ⟨g, cap, cur, hv, _, _, hnc, _⟩
    · injection hv with hA hn hc
      subst hA hn hc
      simp [Builtin.append_, run_underlying ht, sizeOf, typeInfo, hi0, Builtin.lenOf, Builtin.firstCells]
    · injection hv with hA hn hc
      subst hA hc
      simp [Builtin.append_, run_underlying ht, sizeOf, typeInfo, hi0, Builtin.lenOf, Builtin.firstCells, hnc, storeCells]
  · have hc : ∀ j u, k[j]? = some u → w.cell? (ad.add j) = some (.int .u64 u) := fun j u hu => by
      obtain ⟨_, h, _, h'⟩ := hk (by have := (List.getElem?_eq_some_iff.1 hu).1; omega)
      injection h with h
      subst h
      exact h' j u hu
    obtain ⟨v', w', hrun, h2, h3, _, h5⟩ := run_append_own_at (P := Tryz.prog) w base t t 28 i0 (.int .u64 0) 1 8 ht hi0 hz0 hz1 hz2 rfl (by omega) _ n _ ho ad m d (k.map (Value.int .u64)) (by simp [hm])
      (fun j u hu => by
        simp only [List.getElem?_map, Option.map_eq_some_iff] at hu
        obtain ⟨x, hx, rfl⟩ := hu
        exact hc j x hx) (fun u hu => by simp only [List.mem_map] at hu; obtain ⟨x, _, rfl⟩ := hu; rfl) (by simp only [maxLen]; omega) (by omega) hb
    obtain ⟨A', c', rfl, h6⟩ := fin v' w' h2
    exact ⟨A', c', w', hrun, h6, (Below.refl base w).grown h3 hb (fun j hj => (World.ownsRow.lt ho j hj).1)⟩
theorem run_app {w : World} {base : Nat} {A : Option Addr} {n c : Nat} {l : List Int} (ho : Own w base A n c l) {B : Option Addr} {m : Nat} (d : Nat) {k : List Int} (hk : Rd w B k) (hm : k.length = m) (hs : n + m ≤ 1000000) (hb : base ≤ w.heap.size) :
    ∃ A' c' w', (Builtin.append_ #[26, 26] 26 #[.slice A n c, .slice B m d]).run Tryz.prog w = .ok (.slice A' (n + m) c') w' ∧ Own w' base A' (n + m) c' (l ++ k) ∧ Below base w w' :=
  run_app_t _ Tryz.underlying26 ho d hk hm hs hb
/-- An append whose run is known, at a list of operations, guarded or not. -/
theorem wpList_append_run {P : Program} {w : World} {ops : Array Oper} {rest : List Oper} {o : Oper} {a : Act} {Q : Exit → Act → World → Prop} {t u : TypeId} {v xv v' : Value} {w' : World}
    (hrun : (Builtin.append_ #[t, t] u #[v, xv]).run P w = .ok v' w')
    (ho : ∃ s x, o.op = .call { callee := .builtin .append, args := #[s, x], argTypes := #[t, t] } ∧ a.eval s = v ∧ a.eval x = xv) (hu : o.type = u) (hw : Region.wanted o (yielded ops a.tmps) = true)
    (h : wpList P ops Q rest (a.put o.dst v') w') : wpList P ops Q (o :: rest) a w := by
  obtain ⟨s, x, ho, hs, hx⟩ := ho
  refine wpList_step fun K hK => ?_
  rw [if_pos hw]
  unfold Oper.wp execOp
  simp only [ho, hu, resolve, invoke, builtin, Sem.run_bind, Sem.run_pure, Result.andThen_ok, List.map_toArray, List.map_cons, List.map_nil, hs, hx, hrun]
  exact hK _ _ h
theorem rd_of_row {w : World} {a : Option Addr} {len cap : Nat} {zs : List Int}
    (h : (a = none ∧ len = 0 ∧ cap = 0 ∧ zs = []) ∨ ∃ x, a = some x ∧ len ≤ cap ∧ cap ≤ maxLen ∧ zs.length = cap ∧ (∀ i, i < zs.length → w.cell? (x.add i) = some (.int .u64 (zs.getD i 0))) ∧ ∀ n ∈ zs, (Lit.int .u64 n).wf = true) :
    Rd w a (zs.take len) ∧ (zs.take len).length = len ∧ ∀ n ∈ zs.take len, (Lit.int .u64 n).wf = true := by
  rcases h with ⟨rfl, rfl, rfl, rfl⟩ | ⟨x, rfl, hl, hm, hz, hc, hw⟩
  · exact ⟨fun hp => by simp at hp, by simp, by simp⟩
  · refine ⟨fun hp => ⟨x, rfl, ?_, fun j u hu => ?_⟩, by simp; omega, fun n hn => hw n (List.mem_of_mem_take hn)⟩
    · have h0 := hc 0 (by simp at hp; omega)
      have : (x.add 0) = x := by simp [Addr.add]
      rw [this] at h0
      exact block_lt_of_cell h0
    · rw [List.getElem?_take] at hu
      split at hu
      · have hj := (List.getElem?_eq_some_iff.1 hu).1
        rw [hc j hj, List.getD_eq_getElem?_getD, hu]; rfl
      · cases hu
theorem differ {l k : List Int} {j : Nat} (hl : j < l.length) (hk : j < k.length) (hx : ¬ l[j] = k[j]) : decide (l = k) = false := by
  apply decide_eq_false
  rintro rfl
  exact hx rfl
/-- What a call that answers cells leaves: a slice that reads as these numbers, and nothing that was there has changed. -/
def RetR (w : World) (n : Nat) (l : List Int) (e : Ending) (w' : World) : Prop :=
  ∃ A c, e = .returned (.slice A n c) ∧ Rd w' A l ∧ Below w.heap.size w w'
end Go.Proofs.YtlpkccpijloidaaGreat
namespace Go.Proofs.YtlpkccpijloidaaGreat
set_option maxRecDepth 100000
open Go.RowKit Go.Deep
/-- The word of an epoch and a mask. -/
def pk (a b : Int) : Int := a % 281474976710656 * 65536 + b % 65536
/-- A word with a bit set. -/
def st (e w : Int) : Int := if 0 ≤ w ∧ w < 16 ∧ e / 2 ^ w.toNat % 2 = 0 then e + 2 ^ w.toNat else e
/-- The lowest bit from k on, of so many. -/
def lwF (m : Int) (k : Nat) : Nat → Int
  | 0 => -1
  | f + 1 => if m / 2 ^ k % 2 = 1 then (k : Int) else lwF m (k + 1) f
/-- The lowest bit of sixteen. -/
def lw (m : Int) : Int := lwF m 0 16
/-- The mask without its lowest bit. -/
def rs (e : Int) : Int := if 0 ≤ lw e then e % 65536 - 2 ^ (lw e).toNat else e % 65536
/-- The word bumped. -/
def bp (e : Int) : Int := pk (e / 65536 + 1) (rs e)
/-- How far one lies behind another. -/
def far (a b : Int) : Int := wrap64 (a - b)
theorem lw_from (m : Int) (k : Nat) (hk : k ≤ 16) (h : ∀ j, j < k → ¬ m / 2 ^ j % 2 = 1) : lw m = lwF m k (16 - k) := by
  induction k with
  | zero => rfl
  | succ k ih =>
    rw [ih (by omega) (fun j hj => h j (by omega)), show 16 - k = (16 - (k + 1)) + 1 by omega]
    simp only [lwF]
    rw [if_neg (h k (by omega))]
theorem lw_at (m : Int) (k : Nat) (hk : k < 16) (h : ∀ j, j < k → ¬ m / 2 ^ j % 2 = 1) (hb : m / 2 ^ k % 2 = 1) : lw m = k := by
  rw [lw_from m k (by omega) h, show 16 - k = (16 - (k + 1)) + 1 by omega]
  simp only [lwF]
  rw [if_pos hb]
theorem lw_none (m : Int) (h : ∀ j, j < 16 → ¬ m / 2 ^ j % 2 = 1) : lw m = -1 := lw_from m 16 (Nat.le_refl _) h
theorem pow_cases {k : Nat} (hk : k < 16) : k = 0 ∨ k = 1 ∨ k = 2 ∨ k = 3 ∨ k = 4 ∨ k = 5 ∨ k = 6 ∨ k = 7 ∨ k = 8 ∨ k = 9 ∨ k = 10 ∨ k = 11 ∨ k = 12 ∨ k = 13 ∨ k = 14 ∨ k = 15 := by omega
theorem mod_zero (m : Int) (k : Nat) (hk : k ≤ 16) (h : ∀ j, j < k → ¬ m / 2 ^ j % 2 = 1) : m % 2 ^ k = 0 := by
  induction k with
  | zero => simp
  | succ k ih =>
    have h0 := ih (by omega) (fun j hj => h j (by omega))
    have h1 := h k (by omega)
    rcases pow_cases (show k < 16 by omega) with rfl | rfl | rfl | rfl | rfl | rfl | rfl | rfl | rfl | rfl | rfl | rfl | rfl | rfl | rfl | rfl <;> simp at * <;> omega
theorem first_or (p : Nat → Prop) [DecidablePred p] (n : Nat) : (∀ j, j < n → ¬ p j) ∨ ∃ k, k < n ∧ p k ∧ ∀ j, j < k → ¬ p j := by
  induction n with
  | zero => exact .inl fun j hj => by omega
  | succ n ih =>
    rcases ih with h | ⟨k, hk, hp, hj⟩
    · by_cases hn : p n
      · exact .inr ⟨n, by omega, hn, h⟩
      · refine .inl fun j hj => ?_
        by_cases e : j = n
        · rw [e]; exact hn
        · exact h j (by omega)
    · exact .inr ⟨k, by omega, hp, hj⟩
/-- There is no bit of sixteen; or the lowest is such a one. -/
theorem lw_cases (m : Int) : (lw m = -1 ∧ m % 65536 = 0) ∨ ∃ k : Nat, k < 16 ∧ lw m = k ∧ m / 2 ^ k % 2 = 1 ∧ m % 2 ^ k = 0 := by
  rcases first_or (fun j => m / 2 ^ j % 2 = 1) 16 with h | ⟨k, hk, hp, hj⟩
  · exact .inl ⟨lw_none m h, by simpa using mod_zero m 16 (Nat.le_refl _) h⟩
  · exact .inr ⟨k, hk, lw_at m k hk hj hp, hp, mod_zero m k (by omega) hj⟩
theorem bit_mask (m : Int) (j : Nat) (hj : j < 16) : m % 65536 / 2 ^ j % 2 = m / 2 ^ j % 2 := by
  rcases pow_cases hj with rfl | rfl | rfl | rfl | rfl | rfl | rfl | rfl | rfl | rfl | rfl | rfl | rfl | rfl | rfl | rfl <;> simp <;> omega
theorem lwF_mask (m : Int) (k f : Nat) (h : k + f ≤ 16) : lwF (m % 65536) k f = lwF m k f := by
  induction f generalizing k with
  | zero => rfl
  | succ f ih => simp only [lwF]; rw [bit_mask m k (by omega), ih (k + 1) (by omega)]
theorem lw_mask (m : Int) : lw (m % 65536) = lw m := lwF_mask m 0 16 (by omega)
theorem pow_lt {k : Nat} (hk : k < 16) : (1 : Int) ≤ 2 ^ k ∧ (2 : Int) ^ k ≤ 32768 := by
  rcases pow_cases hk with rfl | rfl | rfl | rfl | rfl | rfl | rfl | rfl | rfl | rfl | rfl | rfl | rfl | rfl | rfl | rfl <;> simp
theorem pk_u (a b : Int) : U (pk a b) := by unfold U pk; omega
theorem rs_range (e : Int) : 0 ≤ rs e ∧ rs e < 65536 := by
  unfold rs
  rcases lw_cases e with ⟨h, _⟩ | ⟨k, hk, h, hb, h0⟩
  · rw [h, if_neg (by omega)]; omega
  · rw [h, if_pos (by omega), Int.toNat_natCast]
    rcases pow_cases hk with rfl | rfl | rfl | rfl | rfl | rfl | rfl | rfl | rfl | rfl | rfl | rfl | rfl | rfl | rfl | rfl <;> simp at * <;> omega
theorem bp_u (e : Int) : U (bp e) := pk_u _ _
theorem bp_epoch (e : Int) : bp e / 65536 = (e / 65536 + 1) % 281474976710656 := by
  unfold bp pk; have := rs_range e; omega
theorem bp_mask (e : Int) : bp e % 65536 = rs e := by
  unfold bp pk; have := rs_range e; omega
theorem st_u (e w : Int) (h : U e) : U (st e w) := by
  unfold st U at *
  split
  · rename_i c
    obtain ⟨k, rfl⟩ := Int.eq_ofNat_of_zero_le c.1
    have hk : k < 16 := by omega
    obtain ⟨_, _, c⟩ := c
    rw [Int.toNat_natCast] at *
    rcases pow_cases hk with rfl | rfl | rfl | rfl | rfl | rfl | rfl | rfl | rfl | rfl | rfl | rfl | rfl | rfl | rfl | rfl <;> simp at * <;> omega
  · exact h
theorem wraps_u64 (n : Int) (h₀ : 0 ≤ n) (h₁ : n < 2 ^ 64) : IntKind.u64.wrap n = n := by rw [IntKind.wrap_u64]; omega
/-- A mask of sixteen ones. -/
theorem and_mask (e : Int) (h : U e) : bits .and .u64 e 65535 = e % 65536 := bits_mask .u64 64 (by decide) wraps_u64 16 (by decide) e h.1 (by have := h.2; omega)
/-- A mask of one. -/
theorem and_one (e : Int) (h : U e) : bits .and .u64 e 1 = e % 2 := bits_mask .u64 64 (by decide) wraps_u64 1 (by decide) e h.1 (by have := h.2; omega)
theorem or_pack (a b : Int) : bits .or .u64 (IntKind.u64.wrap (a * 65536)) (b % 65536) = pk a b := by
  rw [IntKind.wrap_u64]
  have e : a * 65536 % 18446744073709551616 = a % 281474976710656 * 65536 := by omega
  rw [e]
  exact bits_join .u64 64 (by decide) wraps_u64 16 _ _ (by omega) (by omega) (by omega) (by omega) (by omega) (by omega)
theorem nat_or_set (n k : Nat) (h : n / 2 ^ k % 2 = 0) : n ||| 2 ^ k = n + 2 ^ k := by
  have hp : 0 < 2 ^ k := Nat.two_pow_pos k
  have e1 : n = 2 ^ (k + 1) * (n / 2 ^ (k + 1)) + n % 2 ^ k := by
    have h1 := Nat.div_add_mod n (2 ^ (k + 1))
    rw [Nat.mod_pow_succ, h, Nat.mul_zero, Nat.add_zero] at h1
    exact h1.symm
  have hr : n % 2 ^ k < 2 ^ k := Nat.mod_lt _ hp
  have hr1 : n % 2 ^ k < 2 ^ (k + 1) := by rw [Nat.pow_succ]; omega
  have hr2 : 2 ^ k * 1 + n % 2 ^ k < 2 ^ (k + 1) := by rw [Nat.pow_succ]; omega
  generalize n / 2 ^ (k + 1) = q at *
  generalize n % 2 ^ k = r at *
  rw [e1, Nat.two_pow_add_eq_or_of_lt hr1, Nat.or_assoc, Nat.or_comm r, ← Nat.mul_one (2 ^ k), ← Nat.two_pow_add_eq_or_of_lt hr, ← Nat.two_pow_add_eq_or_of_lt hr2, ← Nat.two_pow_add_eq_or_of_lt hr1]
  omega
theorem nat_or_has (n k : Nat) (h : n / 2 ^ k % 2 = 1) : n ||| 2 ^ k = n := by
  apply Nat.eq_of_testBit_eq
  intro i
  rw [Nat.testBit_or, Nat.testBit_two_pow]
  by_cases e : k = i
  · subst e
    have : n.testBit k = true := by rw [Nat.testBit_eq_decide_div_mod_eq]; simp [h]
    rw [this]; simp
  · simp [e]
/-- A number with bit k, less that bit, or-ed with the bit. -/
theorem nat_less_or (n k : Nat) (h : n / 2 ^ k % 2 = 1) : 2 ^ k ≤ n ∧ (n - 2 ^ k) / 2 ^ k % 2 = 0 ∧ (n - 2 ^ k) ||| 2 ^ k = n := by
  have hp : 0 < 2 ^ k := Nat.two_pow_pos k
  have h1 : 2 ^ k ≤ n := by
    have : 0 < n / 2 ^ k := Nat.pos_of_ne_zero (fun e => by rw [e] at h; simp at h)
    exact (Nat.div_pos_iff.1 this).2
  have h2 : (n - 2 ^ k) / 2 ^ k = n / 2 ^ k - 1 := by
    have := Nat.sub_mul_div n (2 ^ k) 1
    rwa [Nat.mul_one] at this
  have h3 : (n - 2 ^ k) / 2 ^ k % 2 = 0 := by rw [h2]; omega
  exact ⟨h1, h3, by rw [nat_or_set _ _ h3]; omega⟩
theorem nat_andNot (n k : Nat) (hn : n < 18446744073709551616) (hk : k < 64) (h : n / 2 ^ k % 2 = 1) : n &&& (18446744073709551615 - 2 ^ k) = n - 2 ^ k := by
  obtain ⟨h1, h2, h3⟩ := nat_less_or n k h
  have hx : 2 ^ k < 2 ^ 64 := Nat.pow_lt_pow_right (by omega) hk
  have e0 : 18446744073709551615 - 2 ^ k = 2 ^ 64 - (2 ^ k + 1) := by omega
  rw [e0]
  apply Nat.eq_of_testBit_eq
  intro i
  rw [Nat.testBit_and, Nat.testBit_two_pow_sub_succ hx, Nat.testBit_two_pow]
  have e1 : n.testBit i = ((n - 2 ^ k).testBit i || decide (k = i)) := by
    rw [← Nat.testBit_two_pow, ← Nat.testBit_or, h3]
  have e2 : (n - 2 ^ k).testBit k = false := by rw [Nat.testBit_eq_decide_div_mod_eq]; simp [h2]
  rw [e1]
  by_cases e : k = i
  · subst e; rw [e2]; simp
  · by_cases hi : i < 64
    · simp [e, hi]
    · have h64 : (2 : Nat) ^ 64 ≤ 2 ^ i := Nat.pow_le_pow_right (by decide) (by omega)
      have : (n - 2 ^ k).testBit i = false := Nat.testBit_lt_two_pow (Nat.lt_of_lt_of_le (Nat.lt_of_le_of_lt (Nat.sub_le _ _) hn) h64)
      rw [this]; simp [e]
/-- An or with a bit of sixteen. -/
theorem or_bit (e : Int) (k : Nat) (hk : k < 16) (h : U e) : bits .or .u64 e (2 ^ k) = st e k := by
  obtain ⟨n, rfl⟩ := Int.eq_ofNat_of_zero_le h.1
  have hn : n < 18446744073709551616 := by have := h.2; omega
  have hp : (2 : Nat) ^ k < 2 ^ 64 := Nat.pow_lt_pow_right (by omega) (by omega)
  have c : ((2 : Int) ^ k) = ((2 ^ k : Nat) : Int) := by simp
  unfold st
  rw [Int.toNat_natCast, c, (bits_nat .u64 64 (by decide) wraps_u64 n (2 ^ k) hn hp).2]
  by_cases hb : n / 2 ^ k % 2 = 0
  · rw [if_pos ⟨by omega, by omega, by exact_mod_cast hb⟩, nat_or_set n k hb, Int.natCast_add]
  · rw [if_neg (fun hh => hb (by exact_mod_cast hh.2.2)), nat_or_has n k (by omega)]
/-- A mask without a bit that it has. -/
theorem andNot_bit (e : Int) (k : Nat) (hk : k < 16) (h : U e) (hb : e / 2 ^ k % 2 = 1) : bits .andNot .u64 e (2 ^ k) = e - 2 ^ k := by
  obtain ⟨n, rfl⟩ := Int.eq_ofNat_of_zero_le h.1
  have hn : n < 18446744073709551616 := by have := h.2; omega
  have hp : (2 : Nat) ^ k < 2 ^ 64 := Nat.pow_lt_pow_right (by omega) (by omega)
  have hb' : n / 2 ^ k % 2 = 1 := by exact_mod_cast hb
  have h1 := (nat_less_or n k hb').1
  rw [show ((2 : Int) ^ k) = ((2 ^ k : Nat) : Int) by simp, u64_andNot _ _ (by omega) (by omega) (Int.natCast_nonneg _) (by omega), Int.toNat_natCast, Int.toNat_natCast, nat_andNot n k hn (by omega) hb']
  omega
end Go.Proofs.YtlpkccpijloidaaGreat
namespace Go.Proofs.YtlpkccpijloidaaGreat
set_option maxRecDepth 100000
open Go.RowKit Go.Deep
theorem mask_any (e : Int) (w : World) (h : U e) : Gives 160 #[.int .u64 e] w (.int .u64 (e % 65536)) := by
  have H := Lib.hid h
  clear h
  go_enter Tryz.func160, Tryz.ntmps160
  go_wp2
  go_ret
  rw [and_mask e H.out]
  exact ⟨rfl, rfl⟩
theorem epoch_any (e : Int) (w : World) : Gives 153 #[.int .u64 e] w (.int .u64 (e / 65536)) := by
  go_enter Tryz.func153, Tryz.ntmps153
  go_wp2
  go_ret
  exact ⟨rfl, rfl⟩
theorem pack_any (a b : Int) (w : World) (h : U b) : Gives 178 #[.int .u64 a, .int .u64 b] w (.int .u64 (pk a b)) := by
  have H := Lib.hid h
  clear h
  go_enter Tryz.func178, Tryz.ntmps178
  go_wp2
  go_ret
  rw [and_mask b H.out, or_pack]
  exact ⟨rfl, rfl⟩
theorem wipe_any (e : Int) (w : World) (h : U e) : Gives 175 #[.int .u64 e] w (.int .u64 (pk (e / 65536 + 1) 0)) := by
  have H := Lib.hid h
  clear h
  go_enter Tryz.func175, Tryz.ntmps175
  go_wp2_with fail
  refine (epoch_any _ _).mono ?_
  rintro _ _ ⟨rfl, rfl⟩
  have E := Lib.hid (show IntKind.u64.wrap (e / 65536 + 1) = e / 65536 + 1 from wraps_u64 _ (by have := H.out.1; omega) (by have := H.out.2; omega))
  go_wp2_with fail
  refine (pack_any _ _ _ (by unfold U; omega)).mono ?_
  rintro _ _ ⟨rfl, rfl⟩
  go_wp2
  go_ret
  rw [E.out]
  exact ⟨rfl, rfl⟩
theorem far_any (a b : Int) (w : World) : Gives 83 #[.int .u64 a, .int .u64 b] w (.int .i64 (far a b)) := by
  go_enter Tryz.func83, Tryz.ntmps83
  go_wp2
  go_ret
  refine ⟨?_, rfl⟩
  unfold far wrap64
  rw [IntKind.wrap_u64]
  rw [show ((a - b) % 18446744073709551616 + 9223372036854775808) % 18446744073709551616 - 9223372036854775808 = (a - b + 9223372036854775808) % 18446744073709551616 - 9223372036854775808 by omega]
  rfl
theorem set_any (e i : Int) (w : World) (h : U e) : Gives 155 #[.int .u64 e, .int .i64 i] w (.int .u64 (st e i)) := by
  have H := Lib.hid h
  clear h
  by_cases hi : 0 ≤ i ∧ i < 16
  · obtain ⟨h0, h1⟩ := hi
    obtain ⟨k, rfl⟩ := Int.eq_ofNat_of_zero_le h0
    clear h0
    go_enter Tryz.func155, Tryz.ntmps155
    go_wp2
    go_ret
    have hk : k < 16 := by omega
    have hp := pow_lt hk
    rw [wraps_u64 _ (by omega) (by omega), or_bit e k hk H.out]
    exact ⟨rfl, rfl⟩
  · have e0 : st e i = e := by unfold st; rw [if_neg (fun c => hi ⟨c.1, c.2.1⟩)]
    rw [e0]
    have hi' : i < 0 ∨ 16 ≤ i := by omega
    clear hi
    rcases hi' with hi | hi
    all_goals
      go_enter Tryz.func155, Tryz.ntmps155
      go_wp2
      go_ret
      exact ⟨rfl, rfl⟩
theorem jA {α : Type} {l : List α} {i : Nat} {a : α} : l.toArray.setIfInBounds i a = (l.set i a).toArray := List.setIfInBounds_toArray ..
theorem jB {α : Type} {a : α} {l : List α} {b : α} : (a :: l).set 0 b = b :: l := rfl
theorem jC {α : Type} {a : α} {l : List α} {n : Nat} {b : α} : (a :: l).set (n + 1) b = a :: l.set n b := rfl

/-- 'wpAnyH_take' where what is taken is in no way special. -/
theorem tkH {P : Program} {ops : Array Oper} {Q : Exit → Act → World → Prop} {md : Region.Mode} {S : World → Prop} (i : Nat) {oi : Oper} {v : Value} {fuel : Nat} {listed : Array Bool} {a : Act} {w : World} (hi : ops[i]? = some oi)
    (hy : ∀ w, S w → (execOp a.eval oi).run P w = .ok (.value v) w) (h : wpAnyH P md ops Q S fuel (listed.setIfInBounds i true) (a.put oi.dst v) w)
    (hs : Region.noSelect ops = true := by kernel_rfl) (hf : Region.free md ops listed i = true := by kernel_rfl) (hr : (Region.ready md ops listed).contains i = true := by kernel_rfl)
    (hQ : ∀ c a w, Q (.panic c) (a.put oi.dst v) w → Q (.panic c) a w := by exact fun _ _ _ h => h) (he : Region.wanted oi (yielded ops a.tmps) = true := by rfl) (hS : S w := by assumption) :
    wpAnyH P md ops Q S (fuel + 1) listed a w := wpAnyH_take hi hs hf hr hQ (Or.inl ⟨he, hy⟩) hS h

end Go.Proofs.YtlpkccpijloidaaGreat
