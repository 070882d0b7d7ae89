/- Merged: WordB, WordC. -/
import Derived.Test.YtlpkccpijloidaaGreatBaM
import Derived.RangeFuncNested
import Derived.RangeFuncBound
import Derived.RangeFuncCalls
import Derived.RangeFuncLeaves
import Derived.Shelf.Abstract
import Derived.Shelf.RegionOpen
import Derived.OwnWalkIn
import Derived.TacticsInMore
import Derived.LoopNIn
import Derived.LoopIn
namespace Go.Proofs.YtlpkccpijloidaaGreat
set_option maxRecDepth 100000
open Go.RowKit Go.Deep
attribute [local go_sem] Oper.semAt_some
/-- The bits that are set of the first k. -/
def upto (m : Int) : Nat → List Int
  | 0 => []
  | k + 1 => if m / 2 ^ k % 2 = 1 then upto m k ++ [(k : Int)] else upto m k
theorem upto_len (m : Int) (k : Nat) : (upto m k).length ≤ k := by
  induction k with
  | zero => simp [upto]
  | succ k ih =>
    unfold upto
    split
    · simp; omega
    · omega
theorem upto_nil {m : Int} {k : Nat} (h : upto m k = []) : ∀ j, j < k → ¬ m / 2 ^ j % 2 = 1 := by
  induction k with
  | zero => intro j hj; omega
  | succ k ih =>
    unfold upto at h
    by_cases hb : m / 2 ^ k % 2 = 1
    · rw [if_pos hb] at h; simp at h
    · rw [if_neg hb] at h
      intro j hj
      by_cases e : j = k
      · rw [e]; exact hb
      · exact ih h j (by omega)
theorem bit_u (m : Int) (k : Nat) (h : U m) : U (m / 2 ^ k) := by
  have hp : (0 : Int) < 2 ^ k := Int.pow_pos (by decide)
  have h2 : m / 2 ^ k ≤ m := Int.ediv_le_self _ h.1
  exact ⟨Int.ediv_nonneg h.1 (Int.le_of_lt hp), Int.lt_of_le_of_lt h2 h.2⟩
theorem bits_in (m : Int) (n : Nat) (w : World) :
    CallsIn Fence.wide n Tryz.prog 176 #[.int .u64 m] w fun e w' => e = .returned (.func (.func 179) #[] #[.pointer (some ⟨w.heap.size, 0, none⟩)]) ∧ w' = w.alloc (.cells #[.int .u64 m] 28) := by
  refine callsIn_of_wp Tryz.func176 rfl trivial ?_ rfl
  simp only [Tryz.ntmps176, List.size_toArray, List.length_cons, List.length_nil, Nat.reduceAdd, Nat.reduceSub, Array.replicate_succ, Array.replicate_zero, List.push_toArray, List.append_toArray, List.nil_append, List.cons_append]
  gi_wp2
  go_ret
  exact ⟨rfl, rfl⟩
set_option maxHeartbeats 2000000 in
theorem bits1_in (n : Nat) (hn : 1 ≤ n) (l Bn : Nat) (m : Int) (hU : U m) (J Jx : List Int → World → Prop)
    (hY : ∀ pre x W, J pre W → pre.length < 16 → YieldAt Fence.wide (n - 1) Tryz.prog l #[.int .i64 x] W fun e W' =>
      (e = .returned (.bool true) ∧ J (pre ++ [x]) W' ∧ W'.cell? ⟨Bn, 0, none⟩ = W.cell? ⟨Bn, 0, none⟩) ∨ (e = .returned (.bool false) ∧ Jx (pre ++ [x]) W'))
    (W : World) (hBn : W.cell? ⟨Bn, 0, none⟩ = some (.int .u64 m)) (h0 : J [] W) :
    CallsIn Fence.wide n Tryz.prog 179 #[.func (.yield l) #[] #[], .pointer (some ⟨Bn, 0, none⟩)] W fun e W' => (∃ v, e = .returned v) ∧
      ((∃ ys, ys = upto m 16 ∧ J ys W') ∨ (∃ pre, (∃ k : Nat, k < 16 ∧ m / 2 ^ k % 2 = 1 ∧ pre = upto m k ++ [(k : Int)]) ∧ Jx pre W')) := by
  refine callsIn_of_wp Tryz.func179 rfl trivial ?_ rfl
  simp only [Tryz.ntmps179, List.size_toArray, List.length_cons, List.length_nil, Nat.reduceAdd, Nat.reduceSub, Array.replicate_succ, Array.replicate_zero, List.push_toArray, List.append_toArray, List.nil_append, List.cons_append]
  have HU := Lib.hid hU
  clear hU
  gi_wp2
  gi_loopw [4] (fun p wr => ∃ k : Nat, p = .int .i64 k ∧ k ≤ 16 ∧ wr.cell? ⟨Bn, 0, none⟩ = some (.int .u64 m) ∧ J (upto m k) wr)
    (fun p _ => 16 - (intOf p).toNat)
  case atStart =>
    exact ⟨0, rfl, by omega, hBn, h0⟩
  case round =>
    obtain ⟨k, rfl, hk, hc, hJs⟩ := hrel
    by_cases hk16 : k = 16
    · subst hk16
      gi_wp2
      go_end0
      exact ⟨⟨_, rfl⟩, .inl ⟨_, rfl, hJs⟩⟩
    · have hlt : (k : Int) < 16 := by omega
      have hb1 := and_one _ (bit_u m k HU.out)
      by_cases hb : m / 2 ^ k % 2 = 1
      · have hx : bits BinOp.and IntKind.u64 (m / 2 ^ k) 1 = 1 := hb1.trans hb
        have HB := Lib.hid hb
        clear hb1 hb
        obtain ⟨fn, tmps, assign, body, hy, hR⟩ := hY (upto m k) k wr hJs (by have := upto_len m k; omega)
        gi_wp2
        refine hR.mono ?_
        rintro e W3 (⟨rfl, hJ3, hk3⟩ | ⟨rfl, hJx3⟩)
        · have hc3 := hk3.trans hc
          gi_wp2
          go_roundw
          case rel => exact ⟨k + 1, by simp, by omega, hc3, by unfold upto; rw [if_pos HB.out]; exact hJ3⟩
          case measure => simp only [intOf]; omega
        · gi_wp2
          refine bodyPost_ret (results_none rfl _ _ _) rfl ?_
          exact ⟨⟨_, rfl⟩, .inr ⟨_, ⟨k, by omega, HB.out, rfl⟩, hJx3⟩⟩
      · have hx : bits BinOp.and IntKind.u64 (m / 2 ^ k) 1 = 0 := by rw [hb1]; omega
        have HB := Lib.hid hb
        clear hb1 hb
        gi_wp2
        refine ⟨fun _ h => (by cases h), ?_⟩
        gi_wp2
        go_roundw
        case rel => exact ⟨k + 1, by simp, by omega, hc, by unfold upto; rw [if_neg HB.out]; exact hJs⟩
        case measure => simp only [intOf]; omega
theorem bits_stops (n : Nat) (hn : 1 ≤ n) (Bn : Nat) (m : Int) (hU : U m) (w : World) (hBn : Bn < w.heap.size) (hc : w.cell? ⟨Bn, 0, none⟩ = some (.int .u64 m)) :
    SeqStopsK Fence.wide n Tryz.prog 179 #[.pointer (some ⟨Bn, 0, none⟩)] (fun x : Int => #[Value.int .i64 x]) (fun A B => B.cell? ⟨Bn, 0, none⟩ = A.cell? ⟨Bn, 0, none⟩)
      (fun ys => ys = upto m 16) (fun pre => ∃ k : Nat, k < 16 ∧ m / 2 ^ k % 2 = 1 ∧ pre = upto m k ++ [(k : Int)]) 16 w := fun l J Jx W hW _ _ hY h0 =>
  bits1_in n hn l Bn m hU J Jx hY W ((hW.cell (p := ⟨Bn, 0, none⟩) hBn).trans hc) h0
theorem cell_of_box {W : World} {B : Nat} {v : Value} {t : TypeId} (h : W.heap[B]? = some (.cells #[v] t (0, 0))) : W.cell? ⟨B, 0, none⟩ = some v ∧ W.frozen? ⟨B, 0, none⟩ = false := by
  constructor <;> simp [World.cell?, World.frozen?, h]
theorem cell_new (W : World) (v : Value) (t : TypeId) : (W.alloc (.cells #[v] t)).cell? ⟨W.heap.size, 0, none⟩ = some v ∧ (W.alloc (.cells #[v] t)).frozen? ⟨W.heap.size, 0, none⟩ = false :=
  cell_of_box (World.alloc_heap_new W _)
theorem cell_alloc {W : World} {a : Addr} {v : Value} (o : Obj) (h : W.cell? a = some v) : (W.alloc o).cell? a = some v := cell_kept h (World.grownBy_alloc W o none) (fun r e => by cases e)
theorem frozen_alloc {W : World} {a : Addr} {v : Value} (o : Obj) (h : W.cell? a = some v) (hf : W.frozen? a = false) : (W.alloc o).frozen? a = false := (frozen_kept h (World.grownBy_alloc W o none) (fun r e => by cases e)).trans hf
set_option maxHeartbeats 2000000 in
theorem lowest_in (n : Nat) (hn : 3 ≤ n) (m : Int) (hU : U m) (w : World) :
    CallsIn Fence.wide n Tryz.prog 163 #[.int .u64 m] w fun e w' => e = .returned (.int .i64 (lw m)) ∧ Below w.heap.size w w' := by
  have h1 : 1 ≤ n := by omega
  refine callsIn_of_wp_marks Tryz.func163 rfl trivial ?_ rfl
  simp only [Tryz.ntmps163, List.size_toArray, List.length_cons, List.length_nil, Nat.reduceAdd, Nat.reduceSub, Array.replicate_succ, Array.replicate_zero, List.push_toArray, List.append_toArray, List.nil_append, List.cons_append]
  gi_wp2_with (refine ⟨trivial, ?_⟩; gi_at_call 176; refine (bits_in _ _ _).mono ?_; rintro e w' ⟨rfl, rfl⟩)
  have c0 := cell_new w (.int .i64 0) 3
  have c1 := cell_new (w.alloc (.cells #[.int .i64 0] 3)) (.int .u64 m) 28
  simp only [World.size_alloc] at c1
  have hB0 : Below w.heap.size w ((w.alloc (.cells #[.int .i64 0] 3)).alloc (.cells #[.int .u64 m] 28)) := ((Below.refl _ w).alloc (Nat.le_refl _) _).alloc (by simp) _
  refine wpIn_rangeFunc_ownF rfl h1 (gf := 179) (lb := #[.pointer (some ⟨w.heap.size + 1, 0, none⟩)]) rfl trivial (enters_of Tryz.func179 (by kernel_rfl) rfl)
    (bits_stops (n - 1) (by omega) (w.heap.size + 1) m hU _ (by simp) c1.1) (fun h k => k.trans h) ?kb (Below.refl _ _) (fun _ => rfl)
    (fun pre W => (pre = [] ∧ W.cell? ⟨w.heap.size, 0, none⟩ = some (.int .i64 0) ∧ W.frozen? ⟨w.heap.size, 0, none⟩ = false) ∧ Below w.heap.size w W)
    (fun c pre W => (c = .ret ∧ ∃ x : Int, pre = [x] ∧ W.cell? ⟨w.heap.size, 0, none⟩ = some (.int .i64 x)) ∧ Below w.heap.size w W)
    (OwnFrom.and (Own.from (fun s A B row hs hg hr => ⟨hs.1, cell_kept hs.2.1 hg hr, (frozen_kept hs.2.1 hg hr).trans hs.2.2⟩) _) (ownFrom_below (Nat.le_refl _) (by simp; omega)))
    (fun c => OwnFrom.and (Own.from (fun s A B row hs hg hr => ⟨hs.1, hs.2.choose, hs.2.choose_spec.1, cell_kept hs.2.choose_spec.2 hg hr⟩) _) (ownFrom_below (Nat.le_refl _) (by simp; omega)))
    ⟨⟨rfl, cell_alloc _ c0.1, frozen_alloc _ c0.1 c0.2⟩, hB0⟩
    (fun x => { tmps := #[.int .u64 m, undef, .pointer (some ⟨w.heap.size, 0, none⟩), .int .i64 x, .int .u64 m, .func (.func 179) #[] #[.pointer (some ⟨w.heap.size + 1, 0, none⟩)], .int .i64 x, undef], defers := [] }) ?assign ?body ?done ?stop
  case kb =>
    intro W l o o' hl ho hc hw
    exact (belowK_b (Nat.le_refl _) W l o o' hl ho hc hw).cell (p := ⟨w.heap.size + 1, 0, none⟩) (by simp)
  case assign =>
    intro l x W K hK
    gi_wp2
    exact hK
  case body =>
    rintro l pre x W ⟨⟨rfl, hc, hf⟩, hB⟩ _
    gi_wp2
    exact ⟨KeepsOthers.setCell _ _ _, ⟨rfl, x, rfl, World.cell?_setCell_same' _ _ _ (by rw [hc]; rfl)⟩, hB.setCell (p := ⟨w.heap.size, 0, none⟩) (Nat.le_refl _) _⟩
  case done =>
    rintro D ys W hD rfl ⟨⟨hne, hcr, hfr⟩, hB⟩ hK
    gi_wp2
    have hK' := (KeepsOthers.setCell W ⟨w.heap.size, 0, none⟩ (.int .i64 (-1))).same D _ hK rfl
    refine ⟨by simp, .inl ⟨_, _, rfl, run_takeDeferred hK', ?_⟩⟩
    have hc5 := cell_kept (World.cell?_setCell_same' W ⟨w.heap.size, 0, none⟩ (.int .i64 (-1)) (by rw [hcr]; rfl)) (grownBy_putObj' _ D (.deferred none)) (fun r e => by cases e; exact ⟨_, hK', rfl⟩)
    refine ⟨.int .i64 (-1), ?_, by rw [lw_none m (upto_nil hne)], (hB.setCell (p := ⟨w.heap.size, 0, none⟩) (Nat.le_refl _) _).trans (belowK_b (w := w) (Nat.le_refl _) _ D _ _ (by simp at hD; omega) hK' rfl rfl)⟩
    simp [results, Tryz.f163, go_sem, hc5]
  case stop =>
    rintro D c pre W hD ⟨k, hk, hb, hp⟩ ⟨⟨rfl, x, rfl, hcr⟩, hB⟩ hK
    have hx : upto m k = [] ∧ x = (k : Int) := by
      cases hu : upto m k with
      | nil => rw [hu] at hp; simp at hp; exact ⟨rfl, hp⟩
      | cons y ys => rw [hu] at hp; simp at hp
    obtain ⟨hu, rfl⟩ := hx
    gi_wp2
    refine ⟨by simp, .inl ⟨_, _, rfl, run_takeDeferred hK, ?_⟩⟩
    have hc5 := cell_kept hcr (grownBy_putObj' _ D (.deferred none)) (fun r e => by cases e; exact ⟨_, hK, rfl⟩)
    refine ⟨.int .i64 k, ?_, by rw [lw_at m k hk (upto_nil hu) hb], hB.trans (belowK_b (w := w) (Nat.le_refl _) W D _ _ (by simp at hD; omega) hK rfl rfl)⟩
    simp [results, Tryz.f163, go_sem, hc5]
theorem lowest_any (m : Int) (w : World) (h : U m) : Tells 163 #[.int .u64 m] w (.int .i64 (lw m)) := (callsIn_wide (n := 3)).1 (lowest_in 3 (Nat.le_refl _) m h w)
end Go.Proofs.YtlpkccpijloidaaGreat
namespace Go.Proofs.YtlpkccpijloidaaGreat
set_option maxRecDepth 100000
open Go.RowKit Go.Deep
theorem ep_wrap (e : Int) (h : U e) : IntKind.u64.wrap (e / 65536 + 1) = e / 65536 + 1 := wraps_u64 _ (by have := h.1; omega) (by have := h.2; omega)
theorem mask_u (e : Int) : U (e % 65536) := by unfold U; omega
theorem bump_any (e : Int) (w : World) (h : U e) : Tells 174 #[.int .u64 e] w (.tuple #[.int .u64 (bp e), .int .i64 (lw e)]) := by
  have H := Lib.hid h
  have EW := Lib.hid (ep_wrap e h)
  clear h
  rcases lw_cases e with ⟨hl, h0⟩ | ⟨k, hk, hl, hb, h0⟩
  · have E := Lib.hid (show pk (e / 65536 + 1) (e % 65536) = bp e by unfold bp rs; rw [hl, if_neg (by omega)])
    have HL := Lib.hid hl
    clear hl h0
    go_enter Tryz.func174, Tryz.ntmps174
    go_wp2_with fail
    refine (mask_any _ _ H.out).mono ?_
    rintro _ _ ⟨rfl, rfl⟩
    go_wp2_with fail
    refine (Tells.of (lowest_any _ _ H.out) (congrArg (Value.int .i64) HL.out)).mono ?_
    rintro _ w1 ⟨rfl, z1⟩
    have Z := Lib.hid z1
    clear z1
    go_wp2_with fail
    refine (epoch_any _ _).mono ?_
    rintro _ _ ⟨rfl, rfl⟩
    go_wp2_with fail
    refine (Gives.of (pack_any _ _ _ (mask_u _)) (v' := .int .u64 (bp e)) (by rw [EW.out, E.out])).mono ?_
    rintro _ _ ⟨rfl, rfl⟩
    go_wp2
    go_ret2
    exact ⟨by rw [HL.out]; rfl, Z.out⟩
  · have hp := pow_lt hk
    have E := Lib.hid (show bits .andNot .u64 (e % 65536) (2 ^ k) = rs e by
      unfold rs; rw [andNot_bit _ k hk (mask_u e) (by rw [bit_mask e k hk]; exact hb), hl, if_pos (by omega), Int.toNat_natCast])
    have E2 := Lib.hid (show IntKind.u64.wrap (2 ^ k) = 2 ^ k from wraps_u64 _ (by omega) (by omega))
    have HL := Lib.hid hl
    clear hl h0 hb hp
    go_enter Tryz.func174, Tryz.ntmps174
    go_wp2_with fail
    refine (mask_any _ _ H.out).mono ?_
    rintro _ _ ⟨rfl, rfl⟩
    go_wp2_with fail
    refine (Tells.of (lowest_any _ _ H.out) (congrArg (Value.int .i64) HL.out)).mono ?_
    rintro _ w1 ⟨rfl, z1⟩
    have Z := Lib.hid z1
    clear z1
    go_wp2_with fail
    refine (epoch_any _ _).mono ?_
    rintro _ _ ⟨rfl, rfl⟩
    go_wp2_with fail
    refine (Gives.of (pack_any _ _ _ (by rw [E2.out, E.out]; have := rs_range e; unfold U; omega)) (v' := .int .u64 (bp e)) (by rw [EW.out, E2.out, E.out]; rfl)).mono ?_
    rintro _ _ ⟨rfl, rfl⟩
    go_wp2
    go_ret2
    exact ⟨by rw [HL.out]; rfl, Z.out⟩
end Go.Proofs.YtlpkccpijloidaaGreat
