/- Contracts of turns and unrested, and of the functions that they hand on. -/
import Derived.Test.YtpeaahihjeplmaaDeR
import Derived.Test.YtpeaahihjeplmaaDeD
import Derived.Test.YtpeaahihjeplmaaDqB
namespace Go.Proofs.Ytpeaahihjeplmaa
open Go.RowKit Go.Deep Go.Shelf
attribute [local go_sem] Oper.semAt_some
/-- The slice at A reads as the numbers l (of int). -/
def Ri (w : World) (A : Option Addr) (l : List Int) : Prop :=
  0 < l.length → ∃ ad, A = some ad ∧ ad.block < w.heap.size ∧ ∀ j u, l[j]? = some u → w.cell? (ad.add j) = some (.int .i64 u)
theorem Ri.cl {n₀ : Nat} {w w' : World} {A : Option Addr} {l : List Int} (h : Ri w A l) (hc : Cl n₀ w w') : Ri w' A l := fun hp => by
  obtain ⟨ad, e, hlt, hh⟩ := h hp
  have h0 := hh 0 l[0] (List.getElem?_eq_getElem hp)
  obtain ⟨o, ho, hoc⟩ := cells_of_cell h0
  rw [block_add] at ho
  have hsame : w'.heap[ad.block]? = w.heap[ad.block]? := (hc.same _ _ ho hoc).trans ho.symm
  exact ⟨ad, e, Nat.lt_of_lt_of_le hlt hc.size, fun j u hu => (World.cell?_of_block (by rw [block_add]; exact hsame)).trans (hh j u hu)⟩
theorem Ri.below {w w' : World} {A : Option Addr} {l : List Int} (h : Ri w A l) (hb : Below w.heap.size w w') : Ri w' A l := h.cl (Cl.of_below hb (Nat.le_refl _))
theorem boxed_cl {n₀ : Nat} {W W' : World} {B : Nat} {t : TypeId} {v : Value} (h : Boxed W B t v) (hc : Cl n₀ W W') : Boxed W' B t v := hc.same _ _ h rfl
theorem turns_in (n : Nat) (A : Option Addr) (k c : Nat) (m : Int) (w : World) :
    CallsIn Fence.wide n Try.prog 38 #[.slice A k c, .int .i64 m] w fun e w' =>
      e = .returned (.func (.func 72) #[] #[.pointer (some ⟨w.heap.size, 0, none⟩), .pointer (some ⟨w.heap.size + 1, 0, none⟩)]) ∧
      w' = (w.alloc (.cells #[.slice A k c] 30)).alloc (.cells #[.int .i64 m] 3) := by
  refine callsIn_of_wp Try.func38 rfl trivial ?_ rfl
  simp only [Try.ntmps38, List.size_toArray, List.length_cons, List.length_nil, Nat.reduceAdd, Nat.reduceSub, Array.replicate_succ, Array.replicate_zero, List.push_toArray, List.append_toArray, List.nil_append, List.cons_append]
  gi_wp2
  go_ret
  exact ⟨rfl, rfl⟩
/-- Those of who whose turn counts. -/
def val (m : Int) (who : List Int) : List Int := who.filter fun i => decide (0 ≤ i) && decide (i < m)
theorem val_snoc {m : Int} {who : List Int} {j : Nat} (h : j < who.length) : val m (who.take (j + 1)) = val m (who.take j) ++ (if 0 ≤ who[j] ∧ who[j] < m then [who[j]] else []) := by
  unfold val
  rw [List.take_succ_eq_append_getElem h, List.filter_append]
  congr 1
  by_cases h1 : 0 ≤ who[j] ∧ who[j] < m
  · rw [if_pos h1]; simp [h1]
  · rw [if_neg h1]
    simp only [List.filter_cons, List.filter_nil]
    rw [if_neg (by simpa using h1)]
theorem val_split {m : Int} {who : List Int} {j : Nat} (h : j < who.length) (h1 : 0 ≤ who[j] ∧ who[j] < m) : val m who = val m (who.take j) ++ who[j] :: val m (who.drop (j + 1)) := by
  have e : who = who.take j ++ who[j] :: who.drop (j + 1) := by rw [← List.drop_eq_getElem_cons h, List.take_append_drop]
  have e2 : val m (who.take j ++ who[j] :: who.drop (j + 1)) = val m (who.take j) ++ who[j] :: val m (who.drop (j + 1)) := by
    unfold val
    rw [List.filter_append, List.filter_cons, if_pos (by simp [h1])]
  rw [← e2, ← e]
set_option maxRecDepth 100000 in
set_option maxHeartbeats 4000000 in
theorem turns1_in (n l bw bm k c : Nat) (m : Int) (A : Option Addr) (who : List Int) (hk : who.length = k) (hl : k ≤ 1000) (J : List Int → World → Prop) (W : World)
    (hR : ∀ pre W, J pre W → Boxed W bw 30 (.slice A k c) ∧ Boxed W bm 3 (.int .i64 m) ∧ Ri W A who)
    (hY : ∀ (m' : Nat) (pre : List Int) (x : Int) (rest : List Int) (W : World), J pre W → val m who = pre ++ x :: rest → YieldAt Fence.wide m' Try.prog l #[.int .i64 x] W fun e W' => e = .returned (.bool true) ∧ J (pre ++ [x]) W') (h0 : J [] W) :
    CallsIn Fence.wide n Try.prog 72 #[.func (.yield l) #[] #[], .pointer (some ⟨bw, 0, none⟩), .pointer (some ⟨bm, 0, none⟩)] W fun e W' => (∃ v, e = .returned v) ∧ J (val m who) W' := by
  obtain ⟨q1, q2, q3⟩ := hR [] W h0
  have k1 := q1.cell
  have HK := Lib.hid hk
  have HR := Lib.hid hR
  have HY := Lib.hid hY
  have H0 := Lib.hid h0
  clear q1 q2 q3 hk hR hY h0
  refine callsIn_of_wp Try.func72 rfl trivial ?_ rfl
  simp only [Try.ntmps72, List.size_toArray, List.length_cons, List.length_nil, Nat.reduceAdd, Nat.reduceSub, Array.replicate_succ, Array.replicate_zero, List.push_toArray, List.append_toArray, List.nil_append, List.cons_append]
  gi_wp2
  gi_loopw [8] (fun p wr => ∃ j : Nat, p = .int .i64 j ∧ j ≤ k ∧ J (val m (who.take j)) wr) (fun p _ => k - (intOf p).toNat)
  case atStart => exact ⟨0, rfl, Nat.zero_le _, H0.out⟩
  case round =>
    clear k1 H0
    obtain ⟨j, rfl, hj, hJ⟩ := hrel
    by_cases hlt : j < k
    · have hL : j < who.length := by rw [HK.out]; exact hlt
      obtain ⟨q1, q2, q3⟩ := HR.out _ _ hJ
      have k2 := q2.cell
      obtain ⟨ad, rfl, hal, hac⟩ := q3 (by omega)
      have hx := hac j _ (List.getElem?_eq_getElem hL)
      obtain ⟨x, hX⟩ : ∃ x, who[j] = x := ⟨_, rfl⟩
      rw [hX] at hx
      have hs := val_snoc (m := m) hL
      rw [hX] at hs
      clear q1 q2 q3 hac
      by_cases h1 : 0 ≤ x
      · by_cases h2 : x < m
        · have hsp := val_split (m := m) hL (by rw [hX]; exact ⟨h1, h2⟩)
          rw [hX] at hsp
          rw [if_pos ⟨h1, h2⟩] at hs
          obtain ⟨fn, tmps, assign, body, hy, hRd⟩ := HY.out (n - 1) _ _ _ _ hJ hsp
          have HS := Lib.hid hs
          clear hs hsp hJ
          have d1 : decide (0 ≤ x) = true := decide_eq_true h1
          have d2 : decide (x < m) = true := decide_eq_true h2
          gi_wp2_with fail
          refine ⟨(fun h => by cases h), hRd.mono ?_⟩
          rintro e W3 ⟨rfl, hJ3⟩
          have HJ3 := Lib.hid hJ3
          clear hJ3 hRd hy
          gi_wp2
          go_roundw
          case rel => exact ⟨j + 1, by go_num, by omega, by rw [HS.out]; exact HJ3.out⟩
          case measure => simp [intOf]; omega
        · rw [if_neg (fun h => h2 h.2), List.append_nil] at hs
          have HS := Lib.hid hs
          have HJ := Lib.hid hJ
          clear hs hJ
          have d1 : decide (0 ≤ x) = true := decide_eq_true h1
          have d2 : decide (x < m) = false := decide_eq_false h2
          gi_wp2
          refine ⟨(fun f h => by cases h), ?_⟩
          gi_wp2
          go_roundw
          case rel => exact ⟨j + 1, by go_num, by omega, by rw [HS.out]; exact HJ.out⟩
          case measure => simp [intOf]; omega
      · rw [if_neg (fun h => h1 h.1), List.append_nil] at hs
        have HS := Lib.hid hs
        have HJ := Lib.hid hJ
        clear hs hJ
        have d1 : decide (0 ≤ x) = false := decide_eq_false h1
        gi_wp2
        refine ⟨(fun f h => by cases h), ?_⟩
        gi_wp2
        go_roundw
        case rel => exact ⟨j + 1, by go_num, by omega, by rw [HS.out]; exact HJ.out⟩
        case measure => simp [intOf]; omega
    · have HJ := Lib.hid hJ
      have hje : j = k := by omega
      have e : val m (who.take j) = val m who := by rw [hje, ← HK.out, List.take_length]
      have HE := Lib.hid e
      clear hJ e
      gi_wp2
      go_end0
      exact ⟨⟨_, rfl⟩, by rw [← HE.out]; exact HJ.out⟩
theorem unrested_in (n : Nat) (A : Option Addr) (k c : Nat) (w : World) :
    CallsIn Fence.wide n Try.prog 45 #[.slice A k c] w fun e w' =>
      e = .returned (.func (.func 74) #[] #[.pointer (some ⟨w.heap.size, 0, none⟩)]) ∧ w' = w.alloc (.cells #[.slice A k c] 29) := by
  refine callsIn_of_wp Try.func45 rfl trivial ?_ rfl
  simp only [Try.ntmps45, List.size_toArray, List.length_cons, List.length_nil, Nat.reduceAdd, Nat.reduceSub, Array.replicate_succ, Array.replicate_zero, List.push_toArray, List.append_toArray, List.nil_append, List.cons_append]
  gi_wp2
  go_ret
  exact ⟨rfl, rfl⟩
/-- Whether a call does no step more. -/
def ends (f : Fr) : Bool := decide (f.op = -1) || decide (f.res ≠ 0)
/-- Who is handed on: i, till its call is over, so many times at most. -/
def runs {σ : Type} (st : σ → Int → σ) (fr : σ → List Fr) (i : Nat) : Nat → σ → List Int
  | 0, _ => []
  | n + 1, s => if ends ((fr s).getD i fno) = true then [] else (i : Int) :: runs st fr i n (st s i)
/-- .. and all, in order. -/
def runsL {σ : Type} (st : σ → Int → σ) (fr : σ → List Fr) : Nat → Nat → σ → List Int
  | _, 0, _ => []
  | i, k + 1, s => runs st fr i 20 s ++ runsL st fr (i + 1) k ((runs st fr i 20 s).foldl st s)
set_option maxRecDepth 100000 in
set_option maxHeartbeats 4000000 in
theorem unrested1_in {σ : Type} (st : σ → Int → σ) (fr : σ → List Fr) (s0 : σ) (n l bl k c : Nat) (A : Option Addr) (hl : k ≤ 1000) (J : List Int → World → Prop) (W : World)
    (hJ : ∀ pre W W', J pre W → Below W.heap.size W W' → J pre W')
    (hR : ∀ pre W, J pre W → Boxed W bl 29 (.slice A k c) ∧ Pr W.heap.size W A (fr (pre.foldl st s0)) ∧ (fr (pre.foldl st s0)).length = k)
    (hY : ∀ (m' : Nat) (pre : List Int) (x : Int) (rest : List Int) (W : World), J pre W → runsL st fr 0 k s0 = pre ++ x :: rest → YieldAt Fence.wide m' Try.prog l #[.int .i64 x] W fun e W' => e = .returned (.bool true) ∧ J (pre ++ [x]) W') (h0 : J [] W) :
    CallsIn Fence.wide n Try.prog 74 #[.func (.yield l) #[] #[], .pointer (some ⟨bl, 0, none⟩)] W fun e W' => (∃ v, e = .returned v) ∧ J (runsL st fr 0 k s0) W' := by
  obtain ⟨q1, q2, q3⟩ := hR [] W h0
  have k1 := q1.cell
  have HR := Lib.hid hR
  have HY := Lib.hid hY
  have H0 := Lib.hid h0
  have HJ := Lib.hid hJ
  clear q1 q2 q3 hR hY h0 hJ
  generalize hxs : runsL st fr 0 k s0 = xs at *
  have HX := Lib.hid hxs
  clear hxs
  refine callsIn_of_wp Try.func74 rfl trivial ?_ rfl
  simp only [Try.ntmps74, List.size_toArray, List.length_cons, List.length_nil, Nat.reduceAdd, Nat.reduceSub, Array.replicate_succ, Array.replicate_zero, List.push_toArray, List.append_toArray, List.nil_append, List.cons_append]
  gi_wp2
  gi_loopw [7] (fun p wr => ∃ (i : Nat) (pre : List Int), p = .int .i64 i ∧ i ≤ k ∧ J pre wr ∧ Hid (xs = pre ++ runsL st fr i (k - i) (pre.foldl st s0))) (fun p _ => k - (intOf p).toNat)
  case atStart => exact ⟨0, [], rfl, Nat.zero_le _, H0.out, Lib.hid HX.out.symm⟩
  case round =>
    clear k1 H0 HX
    obtain ⟨i, pre, rfl, hi, hJ, hx⟩ := hrel
    have HJ1 := Lib.hid hJ
    clear hJ
    by_cases hlt : i < k
    · have hx1 : Hid (xs = pre ++ (runs st fr i (20 - 0) (pre.foldl st s0) ++ runsL st fr (i + 1) (k - (i + 1)) ((runs st fr i (20 - 0) (pre.foldl st s0)).foldl st (pre.foldl st s0)))) := by
        refine Lib.hid ?_
        have := hx.out
        rw [show k - i = (k - (i + 1)) + 1 by omega] at this
        exact this
      clear hx
      gi_wp2
      gi_loopw [4] (fun p wr => ∃ (q : Nat) (pre : List Int), p = .int .i64 q ∧ q ≤ 20 ∧ J pre wr ∧ Hid (xs = pre ++ (runs st fr i (20 - q) (pre.foldl st s0) ++ runsL st fr (i + 1) (k - (i + 1)) ((runs st fr i (20 - q) (pre.foldl st s0)).foldl st (pre.foldl st s0))))) (fun p _ => 20 - (intOf p).toNat)
      case atStart => exact ⟨0, pre, rfl, Nat.zero_le _, HJ1.out, hx1⟩
      case round =>
        clear HJ1 hx1
        obtain ⟨q, pre, rfl, hq, hJ, hx⟩ := hrel
        by_cases hq2 : q < 20
        · obtain ⟨q1, q2, q3⟩ := HR.out _ _ hJ
          have k1 := q1.cell
          obtain ⟨b, off, rfl, hal, hc⟩ := q2.at (i := i) (by omega)
          have hget : (fr (pre.foldl st s0))[i]'(by omega) = (fr (pre.foldl st s0)).getD i fno := by rw [List.getD_eq_getElem?_getD, List.getElem?_eq_getElem]; rfl
          rw [hget] at hc
          have e20 : 20 - q = (20 - (q + 1)) + 1 := by omega
          have hx2 := hx.out
          rw [e20] at hx2
          unfold runs at hx2
          clear hx q1 q2 q3 hget
          generalize (fr (pre.foldl st s0)).getD i fno = f at hc hx2
          obtain ⟨o, p, q', v, x, y, s⟩ := f
          obtain ⟨a0, a1, a2, a3, a4, a5, a6⟩ := hc
          simp only at a0 a1 a2 a3 a4 a5 a6
          have HQ := Lib.hid hq2
          clear e20
          have d1 : decide ((q : Int) < 20) = true := decide_eq_true (by omega)
          by_cases ho : o = -1
          · have hx3 : Hid (xs = pre ++ runsL st fr (i + 1) (k - (i + 1)) (pre.foldl st s0)) := by
              refine Lib.hid ?_
              rw [if_pos (by simp [ends, ho])] at hx2
              exact hx2
            have HJ1 := Lib.hid hJ
            have d2 : (o != -1) = false := by simp [ho]
            clear hx2 hJ ho
            gi_wp2
            refine ⟨trivial, ?_⟩
            gi_wp2
            go_roundw
            case rel => exact ⟨i + 1, pre, by go_num, by omega, HJ1.out, hx3⟩
            case measure => simp [intOf]; omega
          · have d2 : (o != -1) = true := by simp [ho]
            have HJ1 := Lib.hid hJ
            clear hJ
            by_cases hs : s = 0
            · have hx3 := hx2
              rw [if_neg (by simp [ends, ho, hs])] at hx3
              have hx4 : xs = pre ++ (i : Int) :: (runs st fr i (20 - (q + 1)) (st (pre.foldl st s0) i) ++ runsL st fr (i + 1) (k - (i + 1)) (((i : Int) :: runs st fr i (20 - (q + 1)) (st (pre.foldl st s0) i)).foldl st (pre.foldl st s0))) := hx3
              have HX4 := Lib.hid hx4
              clear hx2 hx3 hx4 ho
              have d3 : (s != 0) = false := by simp [hs]
              have HS := Lib.hid hs
              clear hs
              gi_wp2_with fail
              refine ⟨trivial, (fun h => by cases h), ?_⟩
              refine (callsIn_wide.2 (Tells.of (over_any ⟨o, p, q', v, x, y, s⟩ wr) (v' := .bool false) (by rw [d3]))).mono ?_
              rintro _ w1 ⟨rfl, z1⟩
              have hJ2 := HJ.out _ _ _ HJ1.out z1
              obtain ⟨fn, tmps, assign, body, hy, hRd⟩ := HY.out (n - 1) _ _ _ _ hJ2 HX4.out
              clear hJ2 z1 a0 a1 a2 a3 a4 a5 a6 k1
              gi_wp2_with fail
              refine ⟨(fun h => by cases h), hRd.mono ?_⟩
              rintro e W3 ⟨rfl, hJ3⟩
              have HJ3 := Lib.hid hJ3
              clear hJ3 hRd hy
              gi_wp2
              go_roundw
              case rel =>
                refine ⟨q + 1, pre ++ [(i : Int)], by go_num, by omega, HJ3.out, Lib.hid ?_⟩
                rw [List.foldl_append]
                have := HX4.out
                simpa using this
              case measure => simp [intOf]; have := HQ.out; omega
            · have hx3 : Hid (xs = pre ++ runsL st fr (i + 1) (k - (i + 1)) (pre.foldl st s0)) := by
                refine Lib.hid ?_
                rw [if_pos (by simp [ends, hs])] at hx2
                exact hx2
              clear hx2 ho
              have d3 : (s != 0) = true := by simp [hs]
              clear hs
              gi_wp2_with fail
              refine ⟨trivial, (fun h => by cases h), ?_⟩
              refine (callsIn_wide.2 (Tells.of (over_any ⟨o, p, q', v, x, y, s⟩ wr) (v' := .bool true) (by rw [d3]))).mono ?_
              rintro _ w1 ⟨rfl, z1⟩
              have hJ2 := Lib.hid (HJ.out _ _ _ HJ1.out z1)
              clear z1 a0 a1 a2 a3 a4 a5 a6 k1 HJ1
              gi_wp2
              go_roundw
              case rel => exact ⟨i + 1, pre, by go_num, by omega, hJ2.out, hx3⟩
              case measure => simp [intOf]; omega
        · have hx3 : Hid (xs = pre ++ runsL st fr (i + 1) (k - (i + 1)) (pre.foldl st s0)) := by
            refine Lib.hid ?_
            have := hx.out
            rw [show 20 - q = 0 by omega] at this
            exact this
          have HJ1 := Lib.hid hJ
          have d1 : decide ((q : Int) < 20) = false := decide_eq_false (by omega)
          clear hx hJ
          gi_wp2
          refine ⟨trivial, ?_⟩
          gi_wp2
          go_roundw
          case rel => exact ⟨i + 1, pre, by go_num, by omega, HJ1.out, hx3⟩
          case measure => simp [intOf]; omega
    · have hx3 : Hid (xs = pre) := by
        refine Lib.hid ?_
        have := hx.out
        rw [show k - i = 0 by omega] at this
        simpa [runsL] using this
      clear hx
      gi_wp2
      go_end0
      exact ⟨⟨_, rfl⟩, by rw [hx3.out]; exact HJ1.out⟩
end Go.Proofs.Ytpeaahihjeplmaa
