/- Contracts of workMayBe, spawns, and of the function that spawns hands on. -/
import Derived.Test.YtobcedlkmnmikaaFoM
import Derived.RangeFuncNested
import Derived.RangeFuncBound
import Derived.RangeFuncCalls
import Derived.RangeFuncLeaves
import Derived.Shelf.Abstract
import Derived.Shelf.RegionOpen
import Derived.OwnWalkIn
import Derived.TacticsInMore
import Derived.LoopNIn
import Derived.LoopIn
namespace Go.Proofs.Ytobcedlkmnmikaa.Fo
open Go.RowKit Go.Deep Go.Shelf
attribute [local go_sem] Oper.semAt_some
set_option maxHeartbeats 400000 in
theorem work_any (A : Option Addr) (c n0 : Nat) (T : List Tsk) (w : World) (h : Tk n0 w A T) (hn : n0 ≤ w.heap.size) (hs : T.length ≤ 1000) :
    Tells 34 #[.slice A T.length c] w (.bool (wk T)) := by
  have HT := Lib.hid h
  clear h
  go_enter Try.func34, Try.ntmps34
  go_wp2
  go_loopw [7] (fun i wr => ∃ j : Nat, j ≤ T.length ∧ i = .int .i64 j ∧ wk (T.take j) = true ∧ Below w.heap.size w wr) (fun i _ => T.length - (intOf i).toNat)
  case atStart => exact ⟨0, Nat.zero_le _, rfl, by simp [wk], Below.refl _ _⟩
  case round =>
    obtain ⟨j, hj, rfl, hw, hb⟩ := hrel
    by_cases hlt : j < T.length
    · obtain ⟨b, off, K, c', rfl, hal, c0, c1, _⟩ := (HT.out.below (hb.mono hn)).at hlt
      have HB := Lib.hid hb
      have HW := Lib.hid hw
      have HS := Lib.hid (wk_take hlt)
      have HN := Lib.hid (wk_no hlt)
      clear hb hw
      go_wp2
      · go_ret
        exact ⟨by rw [HN.out (by omega)]; rfl, HB.out.alloc HB.out.size _⟩
      · go_roundw
        case rel => exact ⟨j + 1, by omega, by go_num, by rw [HS.out, HW.out]; simp; omega, HB.out.alloc HB.out.size _⟩
        case measure => simp [intOf]; omega
      · go_ret
        exact ⟨by rw [HN.out (by omega)]; rfl, HB.out.alloc HB.out.size _⟩
    · have HW := Lib.hid hw
      clear hw
      go_wp2
      go_ret
      obtain rfl : j = T.length := by omega
      refine ⟨?_, hb⟩
      have := HW.out
      rw [List.take_length] at this
      rw [this]; rfl
theorem spawns_in (n : Nat) (A : Option Addr) (k c : Nat) (w : World) :
    CallsIn Fence.wide n Try.prog 37 #[.slice A k c] w fun e w' => e = .returned (.func (.func 38) #[] #[.pointer (some ⟨w.heap.size, 0, none⟩)]) ∧ w' = w.alloc (.cells #[.slice A k c] 22) := by
  refine callsIn_of_wp Try.func37 rfl trivial ?_ rfl
  simp only [Try.ntmps37, List.size_toArray, List.length_cons, List.length_nil, Nat.reduceAdd, Nat.reduceSub, Array.replicate_succ, Array.replicate_zero, List.push_toArray, List.append_toArray, List.nil_append, List.cons_append]
  gi_wp2
  go_ret
  exact ⟨rfl, rfl⟩
set_option maxRecDepth 100000 in
set_option maxHeartbeats 4000000 in
theorem spawns1_in (n : Nat) (hn : 1 ≤ n) (l Bt n₀ : Nat) (A : Option Addr) (c : Nat) (T : List Tsk) (hs : Sm T) (J Jx : List (Nat × Int) → World → Prop)
    (hA : ∀ pre W o, J pre W → J pre (W.alloc o))
    (hY : ∀ pre x W, J pre W → pre.length < (sp T).length → YieldAt Fence.wide (n - 1) Try.prog l #[.int .i64 x.1, .int .i64 x.2] W fun e W' =>
      (e = .returned (.bool true) ∧ J (pre ++ [x]) W' ∧ Below n₀ W W') ∨ (e = .returned (.bool false) ∧ Jx (pre ++ [x]) W'))
    (W : World) (hBt : W.cell? ⟨Bt, 0, none⟩ = some (.slice A T.length c)) (hT : Tk n₀ W A T) (hW : n₀ ≤ W.heap.size) (h0 : J [] W) :
    CallsIn Fence.wide n Try.prog 38 #[.func (.yield l) #[] #[], .pointer (some ⟨Bt, 0, none⟩)] W fun e W' => (∃ v, e = .returned v) ∧
      ((∃ ys, ys = sp T ∧ J ys W') ∨ (∃ pre, pre <+: sp T ∧ Jx pre W')) := by
  refine callsIn_of_wp Try.func38 rfl trivial ?_ rfl
  simp only [Try.ntmps38, List.size_toArray, List.length_cons, List.length_nil, Nat.reduceAdd, Nat.reduceSub, Array.replicate_succ, Array.replicate_zero, List.push_toArray, List.append_toArray, List.nil_append, List.cons_append]
  have HT := Lib.hid hT
  have HS := Lib.hid hs
  have hs1 := hs.1
  clear hT hs
  gi_wp2
  gi_loopw [9] (fun p wr => ∃ i : Nat, p = .int .i64 i ∧ i ≤ T.length ∧ n₀ ≤ wr.heap.size ∧ Tk n₀ wr A T ∧ J (spN T i) wr)
    (fun p _ => T.length - (intOf p).toNat)
  case atStart => exact ⟨0, rfl, by omega, hW, HT.out, h0⟩
  case round =>
    obtain ⟨i, rfl, hi, hz, ht, hJ⟩ := hrel
    have HTk := Lib.hid ht
    clear ht
    by_cases hlt : i < T.length
    · obtain ⟨b, off, K, c', rfl, hal, c0, c1, hk⟩ := HTk.out.at hlt
      have HK := Lib.hid hk
      have hk1 := HS.out.at hlt
      have HJ := Lib.hid hJ
      clear hk hJ
      gi_wp2
      gi_loopw [17] (fun p wr => ∃ j : Nat, p = .int .i64 j ∧ j ≤ T[i].2.length ∧ n₀ ≤ wr.heap.size ∧ Tk n₀ wr (some ⟨b, off, none⟩) T ∧ RdB n₀ wr K T[i].2 ∧ J (spN T i ++ (T[i].2.take j).map fun k => (i, k)) wr)
        (fun p _ => T[i].2.length - (intOf p).toNat)
      case atStart =>
        have hb := (Below.refl n₀ wr).alloc hz (.cells #[.int .i64 T[i].1, .slice K T[i].2.length c'] 37)
        exact ⟨0, rfl, by omega, by simp; omega, HTk.out.below hb, HK.out.below hb, by simpa using hA _ _ _ HJ.out⟩
      case round =>
        obtain ⟨j, rfl, hj, hz2, ht2, hk2, hJ2⟩ := hrel
        have HT2 := Lib.hid ht2
        have HK2 := Lib.hid hk2
        clear ht2 hk2 HK HTk c0 c1 HJ
        by_cases hjl : j < T[i].2.length
        · obtain ⟨kb, ko, rfl, hkl, kc⟩ := HK2.out.at hjl
          have hlen : (spN T i ++ (T[i].2.take j).map fun k => (i, k)).length < (sp T).length := by
            have h1 := (sp_pre' T (j := j + 1) hlt).length_le
            rw [map_take_succ hjl] at h1
            simp at h1 ⊢
            omega
          obtain ⟨fn, tmps, assign, body, hy, hR⟩ := hY _ (i, T[i].2[j]) wr hJ2 hlen
          have HJ2 := Lib.hid hJ2
          clear hJ2 hlen
          dsimp only at hy
          gi_wp2
          refine hR.mono ?_
          rintro e W3 (⟨rfl, hJ3, hk3⟩ | ⟨rfl, hJx3⟩)
          · have HJ3 := Lib.hid hJ3
            have HB3 := Lib.hid hk3
            clear hJ3 hk3
            gi_wp2
            go_roundw
            case rel => exact ⟨j + 1, by go_num, by omega, by have := HB3.out.size; omega, HT2.out.below HB3.out, HK2.out.below HB3.out, by rw [map_take_succ hjl, ← List.append_assoc]; exact HJ3.out⟩
            case measure => simp only [intOf]; omega
          · have HJ3 := Lib.hid hJx3
            clear hJx3
            gi_wp2
            refine bodyPost_ret (results_none rfl _ _ _) rfl ?_
            exact ⟨⟨_, rfl⟩, .inr ⟨_, by rw [List.append_assoc, ← map_take_succ hjl]; exact sp_pre' T hlt, HJ3.out⟩⟩
        · have HJ2 := Lib.hid hJ2
          clear hJ2
          gi_wp2
          go_roundw
          case rel => exact ⟨i + 1, by go_num, by omega, hz2, HT2.out, by
            have := HJ2.out
            rw [List.take_of_length_le (by omega)] at this
            rw [spN, kids_eq hlt]; exact this⟩
          case measure => simp only [intOf]; omega
    · have HJ := Lib.hid hJ
      clear hJ
      gi_wp2
      go_end0
      obtain rfl : i = T.length := by omega
      exact ⟨⟨_, rfl⟩, .inl ⟨_, rfl, HJ.out⟩⟩
theorem spawns_stops (n : Nat) (hn : 1 ≤ n) (Bt n₀ : Nat) (A : Option Addr) (c : Nat) (T : List Tsk) (hs : Sm T) (w : World) (hBt : Bt < w.heap.size) (hn₀ : n₀ ≤ w.heap.size)
    (hc : w.cell? ⟨Bt, 0, none⟩ = some (.slice A T.length c)) (hT : Tk n₀ w A T) :
    SeqStopsK Fence.wide n Try.prog 38 #[.pointer (some ⟨Bt, 0, none⟩)] (fun x : Nat × Int => #[Value.int .i64 x.1, Value.int .i64 x.2]) (Below n₀) (fun ys => ys = sp T) (fun pre => pre <+: sp T) (sp T).length w := fun l J Jx W hW hJ _ hY h0 =>
  spawns1_in n hn l Bt n₀ A c T hs J Jx (fun pre W o h => hJ pre W _ none h (World.grownBy_alloc W o none) (fun r e => by cases e)) hY W ((hW.cell (p := ⟨Bt, 0, none⟩) hBt).trans hc) (hT.below (hW.mono hn₀)) (Nat.le_trans hn₀ hW.size) h0
end Go.Proofs.Ytobcedlkmnmikaa.Fo
