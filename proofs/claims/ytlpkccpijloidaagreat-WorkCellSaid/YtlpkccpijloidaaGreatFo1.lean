/- Merged: FoB, FoC, FoD. -/
import Derived.Test.YtlpkccpijloidaaGreatFo0
import Derived.RangeFuncNested
import Derived.RangeFuncBound
import Derived.RangeFuncCalls
import Derived.RangeFuncLeaves
import Derived.Shelf.Abstract
import Derived.Shelf.RegionOpen
import Derived.OwnWalkIn
import Derived.TacticsInMore
import Derived.LoopNIn
import Derived.LoopIn
import Derived.Laws.MakeOwn
namespace Go.Proofs.YtlpkccpijloidaaGreat.Fo
set_option maxRecDepth 100000
open Go.RowKit Go.Deep Go.Shelf
attribute [local go_sem] Oper.semAt_some
set_option maxHeartbeats 400000 in
theorem work_any (A : Option Addr) (c n0 : Nat) (T : List Tsk) (w : World) (h : Tk n0 w A T) (hn : n0 ≤ w.heap.size) (hs : T.length ≤ 1000) :
    Tells 51 #[.slice A T.length c] w (.bool (wk T)) := by
  have HT := Lib.hid h
  clear h
  go_enter Tryz.func51, Tryz.ntmps51
  go_wp2
  go_loopw [7] (fun i wr => ∃ j : Nat, j ≤ T.length ∧ i = .int .i64 j ∧ wk (T.take j) = true ∧ Below w.heap.size w wr) (fun i _ => T.length - (intOf i).toNat)
  case atStart => exact ⟨0, Nat.zero_le _, rfl, by simp [wk], Below.refl _ _⟩
  case round =>
    obtain ⟨j, hj, rfl, hw, hb⟩ := hrel
    by_cases hlt : j < T.length
    · obtain ⟨b, off, K, c', rfl, hal, c0, c1, _⟩ := (HT.out.below (hb.mono hn)).at hlt
      have HB := Lib.hid hb
      have HW := Lib.hid hw
      have HS := Lib.hid (wk_take hlt)
      have HN := Lib.hid (wk_no hlt)
      clear hb hw
      go_wp2
      · go_ret
        exact ⟨by rw [HN.out (by omega)]; rfl, HB.out.alloc HB.out.size _⟩
      · go_roundw
        case rel => exact ⟨j + 1, by omega, by go_num, by rw [HS.out, HW.out]; simp; omega, HB.out.alloc HB.out.size _⟩
        case measure => simp [intOf]; omega
      · go_ret
        exact ⟨by rw [HN.out (by omega)]; rfl, HB.out.alloc HB.out.size _⟩
    · have HW := Lib.hid hw
      clear hw
      go_wp2
      go_ret
      obtain rfl : j = T.length := by omega
      refine ⟨?_, hb⟩
      have := HW.out
      rw [List.take_length] at this
      rw [this]; rfl
theorem spawns_in (n : Nat) (A : Option Addr) (k c : Nat) (w : World) :
    CallsIn Fence.wide n Tryz.prog 72 #[.slice A k c] w fun e w' => e = .returned (.func (.func 86) #[] #[.pointer (some ⟨w.heap.size, 0, none⟩)]) ∧ w' = w.alloc (.cells #[.slice A k c] 24) := by
  refine callsIn_of_wp Tryz.func72 rfl trivial ?_ rfl
  simp only [Tryz.ntmps72, List.size_toArray, List.length_cons, List.length_nil, Nat.reduceAdd, Nat.reduceSub, Array.replicate_succ, Array.replicate_zero, List.push_toArray, List.append_toArray, List.nil_append, List.cons_append]
  gi_wp2
  go_ret
  exact ⟨rfl, rfl⟩
set_option maxHeartbeats 4000000 in
theorem spawns1_in (n : Nat) (hn : 1 ≤ n) (l Bt n₀ : Nat) (A : Option Addr) (c : Nat) (T : List Tsk) (hs : Sm T) (J Jx : List (Nat × Int) → World → Prop)
    (hA : ∀ pre W o, J pre W → J pre (W.alloc o))
    (hY : ∀ pre x W, J pre W → pre.length < (sp T).length → YieldAt Fence.wide (n - 1) Tryz.prog l #[.int .i64 x.1, .int .i64 x.2] W fun e W' =>
      (e = .returned (.bool true) ∧ J (pre ++ [x]) W' ∧ Below n₀ W W') ∨ (e = .returned (.bool false) ∧ Jx (pre ++ [x]) W'))
    (W : World) (hBt : W.cell? ⟨Bt, 0, none⟩ = some (.slice A T.length c)) (hT : Tk n₀ W A T) (hW : n₀ ≤ W.heap.size) (h0 : J [] W) :
    CallsIn Fence.wide n Tryz.prog 86 #[.func (.yield l) #[] #[], .pointer (some ⟨Bt, 0, none⟩)] W fun e W' => (∃ v, e = .returned v) ∧
      ((∃ ys, ys = sp T ∧ J ys W') ∨ (∃ pre, pre <+: sp T ∧ Jx pre W')) := by
  refine callsIn_of_wp Tryz.func86 rfl trivial ?_ rfl
  simp only [Tryz.ntmps86, List.size_toArray, List.length_cons, List.length_nil, Nat.reduceAdd, Nat.reduceSub, Array.replicate_succ, Array.replicate_zero, List.push_toArray, List.append_toArray, List.nil_append, List.cons_append]
  have HT := Lib.hid hT
  have HS := Lib.hid hs
  have hs1 := hs.1
  clear hT hs
  gi_wp2
  gi_loopw [9] (fun p wr => ∃ i : Nat, p = .int .i64 i ∧ i ≤ T.length ∧ n₀ ≤ wr.heap.size ∧ Tk n₀ wr A T ∧ J (spN T i) wr)
    (fun p _ => T.length - (intOf p).toNat)
  case atStart => exact ⟨0, rfl, by omega, hW, HT.out, h0⟩
  case round =>
    obtain ⟨i, rfl, hi, hz, ht, hJ⟩ := hrel
    have HTk := Lib.hid ht
    clear ht
    by_cases hlt : i < T.length
    · obtain ⟨b, off, K, c', rfl, hal, c0, c1, hk⟩ := HTk.out.at hlt
      have HK := Lib.hid hk
      have hk1 := HS.out.at hlt
      have HJ := Lib.hid hJ
      clear hk hJ
      gi_wp2
      gi_loopw [17] (fun p wr => ∃ j : Nat, p = .int .i64 j ∧ j ≤ T[i].2.length ∧ n₀ ≤ wr.heap.size ∧ Tk n₀ wr (some ⟨b, off, none⟩) T ∧ RdB n₀ wr K T[i].2 ∧ J (spN T i ++ (T[i].2.take j).map fun k => (i, k)) wr)
        (fun p _ => T[i].2.length - (intOf p).toNat)
      case atStart =>
        have hb := (Below.refl n₀ wr).alloc hz (.cells #[.int .i64 T[i].1, .slice K T[i].2.length c'] 71)
        exact ⟨0, rfl, by omega, by simp; omega, HTk.out.below hb, HK.out.below hb, by simpa using hA _ _ _ HJ.out⟩
      case round =>
        obtain ⟨j, rfl, hj, hz2, ht2, hk2, hJ2⟩ := hrel
        have HT2 := Lib.hid ht2
        have HK2 := Lib.hid hk2
        clear ht2 hk2 HK HTk c0 c1 HJ
        by_cases hjl : j < T[i].2.length
        · obtain ⟨kb, ko, rfl, hkl, kc⟩ := HK2.out.at hjl
          have hlen : (spN T i ++ (T[i].2.take j).map fun k => (i, k)).length < (sp T).length := by
            have h1 := (sp_pre' T (j := j + 1) hlt).length_le
            rw [map_take_succ hjl] at h1
            simp at h1 ⊢
            omega
          obtain ⟨fn, tmps, assign, body, hy, hR⟩ := hY _ (i, T[i].2[j]) wr hJ2 hlen
          have HJ2 := Lib.hid hJ2
          clear hJ2 hlen
          dsimp only at hy
          gi_wp2
          refine hR.mono ?_
          rintro e W3 (⟨rfl, hJ3, hk3⟩ | ⟨rfl, hJx3⟩)
          · have HJ3 := Lib.hid hJ3
            have HB3 := Lib.hid hk3
            clear hJ3 hk3
            gi_wp2
            go_roundw
            case rel => exact ⟨j + 1, by go_num, by omega, by have := HB3.out.size; omega, HT2.out.below HB3.out, HK2.out.below HB3.out, by rw [map_take_succ hjl, ← List.append_assoc]; exact HJ3.out⟩
            case measure => simp only [intOf]; omega
          · have HJ3 := Lib.hid hJx3
            clear hJx3
            gi_wp2
            refine bodyPost_ret (results_none rfl _ _ _) rfl ?_
            exact ⟨⟨_, rfl⟩, .inr ⟨_, by rw [List.append_assoc, ← map_take_succ hjl]; exact sp_pre' T hlt, HJ3.out⟩⟩
        · have HJ2 := Lib.hid hJ2
          clear hJ2
          gi_wp2
          go_roundw
          case rel => exact ⟨i + 1, by go_num, by omega, hz2, HT2.out, by
            have := HJ2.out
            rw [List.take_of_length_le (by omega)] at this
            rw [spN, kids_eq hlt]; exact this⟩
          case measure => simp only [intOf]; omega
    · have HJ := Lib.hid hJ
      clear hJ
      gi_wp2
      go_end0
      obtain rfl : i = T.length := by omega
      exact ⟨⟨_, rfl⟩, .inl ⟨_, rfl, HJ.out⟩⟩
theorem spawns_stops (n : Nat) (hn : 1 ≤ n) (Bt n₀ : Nat) (A : Option Addr) (c : Nat) (T : List Tsk) (hs : Sm T) (w : World) (hBt : Bt < w.heap.size) (hn₀ : n₀ ≤ w.heap.size)
    (hc : w.cell? ⟨Bt, 0, none⟩ = some (.slice A T.length c)) (hT : Tk n₀ w A T) :
    SeqStopsK Fence.wide n Tryz.prog 86 #[.pointer (some ⟨Bt, 0, none⟩)] (fun x : Nat × Int => #[Value.int .i64 x.1, Value.int .i64 x.2]) (Below n₀) (fun ys => ys = sp T) (fun pre => pre <+: sp T) (sp T).length w := fun l J Jx W hW hJ _ hY h0 =>
  spawns1_in n hn l Bt n₀ A c T hs J Jx (fun pre W o h => hJ pre W _ none h (World.grownBy_alloc W o none) (fun r e => by cases e)) hY W ((hW.cell (p := ⟨Bt, 0, none⟩) hBt).trans hc) (hT.below (hW.mono hn₀)) (Nat.le_trans hn₀ hW.size) h0
end Go.Proofs.YtlpkccpijloidaaGreat.Fo
namespace Go.Proofs.YtlpkccpijloidaaGreat.Fo
set_option maxRecDepth 100000
open Go.RowKit Go.Deep Go.Shelf
attribute [local go_sem] Oper.semAt_some
theorem Tryz.info4 : (Tryz.prog.info? 4).map (fun i => (i.zero, i.size, i.bytes)) = some (some (.bool false), 1, 1) := by kernel_rfl
/-- The flags of n tasks: which are among l. -/
def flags (n : Nat) (l : List Int) : Array Value := ((List.range n).map fun j : Nat => Value.bool (decide ((j : Int) ∈ l))).toArray
theorem make_flags (n : Nat) (hn : n ≤ 1000) (w : World) : (Instr.makeSlice 91 (.int .i64 n) (.int .i64 n)).run Tryz.prog w = .ok (.slice (some ⟨w.heap.size, 0, none⟩) n n) (w.alloc (.cells (flags n []) 4)) := by
  obtain ⟨i0, hi0, hz⟩ := Option.map_eq_some_iff.1 Tryz.info4
  simp only [Prod.mk.injEq] at hz
  obtain ⟨hz0, hz1, hz2⟩ := hz
  have h := run_makeSlice (P := Tryz.prog) w 91 4 i0 (.bool false) Tryz.underlying91 hi0 hz0 .i64 .i64 (n : Int) (n : Int) (by omega) (by omega) (by rw [hz1]; omega) (by rw [hz2]; omega) (by omega)
  rw [h]
  have e : madeCells (Value.bool false).cells ((n : Int).toNat * i0.size) = flags n [] := by
    rw [hz1]
    apply Array.ext
    · simp [madeCells, flags]
    · intro i h1 h2
      have hi : i % 1 = 0 := by omega
      simp [madeCells, flags, Value.cells, hi]
  rw [e]; rfl
theorem flags_at (n : Nat) (l : List Int) (k : Nat) (h : k < n) : (flags n l)[k]? = some (.bool (decide ((k : Int) ∈ l))) := by
  simp [flags, h]
theorem flags_set (n : Nat) (l : List Int) (k : Nat) : (flags n l).setIfInBounds k (.bool true) = flags n (l ++ [(k : Int)]) := by
  apply Array.ext
  · simp [flags]
  · intro i h1 h2
    simp only [flags, List.size_toArray, List.length_map, List.length_range] at h2
    rw [Array.getElem_setIfInBounds]
    · simp only [flags, List.getElem_toArray, List.getElem_map, List.getElem_range, List.mem_append, List.mem_singleton]
      by_cases e : k = i
      · simp [e]
      · have : ¬ (i : Int) = (k : Int) := by omega
        simp [e, this]
    · simpa [flags] using h2
/-- Block g holds the flags of n tasks. -/
def Fl (W : World) (g n : Nat) (l : List Int) : Prop := W.heap[g]? = some (.cells (flags n l) 4 (0, 0))
theorem Fl.cell {W : World} {g n : Nat} {l : List Int} (h : Fl W g n l) (k : Nat) (hk : k < n) : W.cell? ⟨g, k, none⟩ = some (.bool (decide ((k : Int) ∈ l))) := by
  unfold Fl at h
  simp [World.cell?, h, flags_at n l k hk]
theorem Fl.frozen {W : World} {g n : Nat} {l : List Int} (h : Fl W g n l) (k : Nat) : W.frozen? ⟨g, k, none⟩ = false := by
  unfold Fl at h
  simp [World.frozen?, h]
theorem Fl.set {W : World} {g n : Nat} {l : List Int} (h : Fl W g n l) (k : Nat) : Fl (W.setCell ⟨g, k, none⟩ (.bool true)) g n (l ++ [(k : Int)]) := by
  unfold Fl at h ⊢
  simp [World.setCell, Array.getElem?_modify, h, flags_set]
theorem Fl.kept {W W' : World} {g n : Nat} {l : List Int} {row : Option Nat} (h : Fl W g n l) (hg : W.grownBy W' row) (hr : ∀ r, row = some r → ∃ o : Obj, W.heap[r]? = some o ∧ o.isCells = false) : Fl W' g n l :=
  (grownBy_keeps_cells hg hr (k := g) h rfl).trans h
theorem Fl.alloc {W : World} {g n : Nat} {l : List Int} (h : Fl W g n l) (o : Obj) : Fl (W.alloc o) g n l := (Below.heap_alloc W o g (Array.getElem?_eq_some_iff.1 h).1).trans h
theorem boxed_kept {W W' : World} {B : Nat} {t : TypeId} {v : Value} {row : Option Nat} (h : Boxed W B t v) (hg : W.grownBy W' row) (hr : ∀ r, row = some r → ∃ o : Obj, W.heap[r]? = some o ∧ o.isCells = false) : Boxed W' B t v :=
  (grownBy_keeps_cells hg hr (k := B) h rfl).trans h
theorem boxed_set {W : World} {B : Nat} {t : TypeId} {v u : Value} {a : Addr} (h : Boxed W B t v) (ha : a.block ≠ B) : Boxed (W.setCell a u) B t v := (Below.heap_setCell W a u B (fun e => ha e.symm)).trans h
set_option maxHeartbeats 2000000 in
theorem kidsm_in (n : Nat) (hn : 3 ≤ n) (A : Option Addr) (c n₀ : Nat) (T : List Tsk) (w : World) (hT : Tk n₀ w A T) (hn₀ : n₀ ≤ w.heap.size) (hs : Sm T) :
    CallsIn Fence.wide n Tryz.prog 52 #[.slice A T.length c] w fun e w' => e = .returned (.bool (kd T)) ∧ Below w.heap.size w w' := by
  have h1 : 1 ≤ n := by omega
  have HS := Lib.hid hs
  have hs1 := hs.1
  have HT := Lib.hid hT
  have hmk := make_flags T.length hs1
  clear hs hT
  refine callsIn_of_wp_marks Tryz.func52 rfl trivial ?_ rfl
  simp only [Tryz.ntmps52, List.size_toArray, List.length_cons, List.length_nil, Nat.reduceAdd, Nat.reduceSub, Array.replicate_succ, Array.replicate_zero, List.push_toArray, List.append_toArray, List.nil_append, List.cons_append]
  gi_wp2_with (refine ⟨trivial, ?_⟩; gi_at_call 72; refine (spawns_in _ _ _ _ _).mono ?_; rintro e w' ⟨rfl, rfl⟩)
  generalize hs0 : w.heap.size = s at *
  have b0 : Boxed (((((w.alloc (.cells #[.slice A T.length c] 24)).alloc (.cells #[.bool false] 4)).alloc (.cells (flags T.length []) 4)).alloc (.cells #[.slice (some ⟨s + 1 + 1, 0, none⟩) T.length T.length] 91)).alloc (.cells #[.slice A T.length c] 24)) s 24 (.slice A T.length c) := by
    have := Boxed.new w 24 (.slice A T.length c)
    rw [hs0] at this
    exact (((this.alloc _).alloc _).alloc _).alloc _
  have b1 : Boxed (((((w.alloc (.cells #[.slice A T.length c] 24)).alloc (.cells #[.bool false] 4)).alloc (.cells (flags T.length []) 4)).alloc (.cells #[.slice (some ⟨s + 1 + 1, 0, none⟩) T.length T.length] 91)).alloc (.cells #[.slice A T.length c] 24)) (s + 1) 4 (.bool false) := by
    have := Boxed.new (w.alloc (.cells #[.slice A T.length c] 24)) 4 (.bool false)
    rw [World.size_alloc, hs0] at this
    exact ((this.alloc _).alloc _).alloc _
  have b2 : Fl (((((w.alloc (.cells #[.slice A T.length c] 24)).alloc (.cells #[.bool false] 4)).alloc (.cells (flags T.length []) 4)).alloc (.cells #[.slice (some ⟨s + 1 + 1, 0, none⟩) T.length T.length] 91)).alloc (.cells #[.slice A T.length c] 24)) (s + 1 + 1) T.length [] := by
    have : Fl (((w.alloc (.cells #[.slice A T.length c] 24)).alloc (.cells #[.bool false] 4)).alloc (.cells (flags T.length []) 4)) (s + 1 + 1) T.length [] := by
      have := World.alloc_heap_new ((w.alloc (.cells #[.slice A T.length c] 24)).alloc (.cells #[.bool false] 4)) (.cells (flags T.length []) 4)
      rw [World.size_alloc, World.size_alloc, hs0] at this
      exact this
    exact (this.alloc _).alloc _
  have b3 : Boxed (((((w.alloc (.cells #[.slice A T.length c] 24)).alloc (.cells #[.bool false] 4)).alloc (.cells (flags T.length []) 4)).alloc (.cells #[.slice (some ⟨s + 1 + 1, 0, none⟩) T.length T.length] 91)).alloc (.cells #[.slice A T.length c] 24)) (s + 1 + 1 + 1) 91 (.slice (some ⟨s + 1 + 1, 0, none⟩) T.length T.length) := by
    have := Boxed.new (((w.alloc (.cells #[.slice A T.length c] 24)).alloc (.cells #[.bool false] 4)).alloc (.cells (flags T.length []) 4)) 91 (.slice (some ⟨s + 1 + 1, 0, none⟩) T.length T.length)
    rw [World.size_alloc, World.size_alloc, World.size_alloc, hs0] at this
    exact this.alloc _
  have b4 : Boxed (((((w.alloc (.cells #[.slice A T.length c] 24)).alloc (.cells #[.bool false] 4)).alloc (.cells (flags T.length []) 4)).alloc (.cells #[.slice (some ⟨s + 1 + 1, 0, none⟩) T.length T.length] 91)).alloc (.cells #[.slice A T.length c] 24)) (s + 1 + 1 + 1 + 1) 24 (.slice A T.length c) := by
    have := Boxed.new ((((w.alloc (.cells #[.slice A T.length c] 24)).alloc (.cells #[.bool false] 4)).alloc (.cells (flags T.length []) 4)).alloc (.cells #[.slice (some ⟨s + 1 + 1, 0, none⟩) T.length T.length] 91)) 24 (.slice A T.length c)
    rw [World.size_alloc, World.size_alloc, World.size_alloc, World.size_alloc, hs0] at this
    exact this
  have hB0 : Below s w (((((w.alloc (.cells #[.slice A T.length c] 24)).alloc (.cells #[.bool false] 4)).alloc (.cells (flags T.length []) 4)).alloc (.cells #[.slice (some ⟨s + 1 + 1, 0, none⟩) T.length T.length] 91)).alloc (.cells #[.slice A T.length c] 24)) :=
    (((((Below.refl s w).alloc (by omega) _).alloc (by simp; omega) _).alloc (by simp; omega) _).alloc (by simp; omega) _).alloc (by simp; omega) _
  have hz : (((((w.alloc (.cells #[.slice A T.length c] 24)).alloc (.cells #[.bool false] 4)).alloc (.cells (flags T.length []) 4)).alloc (.cells #[.slice (some ⟨s + 1 + 1, 0, none⟩) T.length T.length] 91)).alloc (.cells #[.slice A T.length c] 24)).heap.size = s + 5 := by simp; omega
  generalize (((((w.alloc (.cells #[.slice A T.length c] 24)).alloc (.cells #[.bool false] 4)).alloc (.cells (flags T.length []) 4)).alloc (.cells #[.slice (some ⟨s + 1 + 1, 0, none⟩) T.length T.length] 91)).alloc (.cells #[.slice A T.length c] 24)) = W0 at *
  refine wpIn_rangeFunc_ownF rfl h1 (gf := 86) (lb := #[.pointer (some ⟨s + 1 + 1 + 1 + 1, 0, none⟩)]) rfl trivial (enters_of Tryz.func86 (by kernel_rfl) rfl)
    (spawns_stops (n - 1) (by omega) (s + 1 + 1 + 1 + 1) n₀ A c T HS.out W0 (by omega) (by omega) b4.cell (HT.out.below (hB0.mono hn₀))) belowK_t (belowK_b (by omega)) (Below.refl _ _) (fun _ => rfl)
    (fun pre W => (okP T.length pre ∧ Boxed W s 24 (.slice A T.length c) ∧ Boxed W (s + 1) 4 (.bool false) ∧ Fl W (s + 1 + 1) T.length (pre.map Prod.snd) ∧ Boxed W (s + 1 + 1 + 1) 91 (.slice (some ⟨s + 1 + 1, 0, none⟩) T.length T.length)) ∧ Below s w W)
    (fun c pre W => (c = .ret ∧ ¬ okP T.length pre ∧ Boxed W (s + 1) 4 (.bool false)) ∧ Below s w W)
    (OwnFrom.and (Own.from (fun s A B row hs hg hr => ⟨hs.1, boxed_kept hs.2.1 hg hr, boxed_kept hs.2.2.1 hg hr, hs.2.2.2.1.kept hg hr, boxed_kept hs.2.2.2.2 hg hr⟩) _) (ownFrom_below (by omega) (by omega)))
    (fun c => OwnFrom.and (Own.from (fun s A B row hs hg hr => ⟨hs.1, hs.2.1, boxed_kept hs.2.2 hg hr⟩) _) (ownFrom_below (by omega) (by omega)))
    ⟨⟨okP_nil _, b0, b1, b2, b3⟩, hB0⟩
    (fun x => { tmps := #[.slice A T.length c, .pointer (some ⟨s, 0, none⟩), .pointer (some ⟨s + 1, 0, none⟩), .pointer (some ⟨s + 1 + 1 + 1, 0, none⟩), .int .i64 x.1, .int .i64 x.2, .slice A T.length c, .int .i64 T.length, .slice (some ⟨s + 1 + 1, 0, none⟩) T.length T.length, .slice A T.length c,
      .func (.func 86) #[] #[.pointer (some ⟨s + 1 + 1 + 1 + 1, 0, none⟩)], .int .i64 x.1, .int .i64 x.2, undef, undef, undef, undef, undef, undef, undef, undef, undef, undef, undef, undef, undef, undef, undef, undef, undef, undef], defers := [] }) ?assign ?body ?done ?stop
  case assign =>
    intro l x W K hK
    gi_wp2
    exact hK
  case body =>
    rintro l pre ⟨p, k⟩ W ⟨⟨hok, c0, c1, fl, c3⟩, hB⟩ _
    have k0 := c0.cell
    have k1 := c1.cell
    have z1 := c1.frozen
    have k3 := c3.cell
    have HO := Lib.hid hok
    have C0 := Lib.hid c0
    have C1 := Lib.hid c1
    have C3 := Lib.hid c3
    have FL := Lib.hid fl
    have HB := Lib.hid hB
    clear hok c0 c1 c3 fl hB hmk
    by_cases h1 : k ≤ (p : Int)
    · gi_wp2
      exact ⟨KeepsOthers.setCell _ _ _, ⟨rfl, fun h => by have := (okP_snoc.1 h).2.1; omega, C1.out.set _⟩, HB.out.setCell (p := ⟨s + 1, 0, none⟩) (by simp) _⟩
    · by_cases h2 : (T.length : Int) ≤ k
      · gi_wp2
        exact ⟨KeepsOthers.setCell _ _ _, ⟨rfl, fun h => by have := (okP_snoc.1 h).2.2.1; omega, C1.out.set _⟩, HB.out.setCell (p := ⟨s + 1, 0, none⟩) (by simp) _⟩
      · obtain ⟨q, rfl⟩ : ∃ q : Nat, k = q := ⟨k.toNat, by omega⟩
        have hq : q < T.length := by omega
        have hf := FL.out.cell q hq
        have hz := FL.out.frozen q
        by_cases h3 : (q : Int) ∈ pre.map Prod.snd
        · have HM := Lib.hid h3
          have e : decide ((q : Int) ∈ pre.map Prod.snd) = true := decide_eq_true h3
          rw [e] at hf
          clear h3 e
          gi_wp2
          exact ⟨KeepsOthers.setCell _ _ _, ⟨rfl, fun h => (okP_snoc.1 h).2.2.2 HM.out, C1.out.set _⟩, HB.out.setCell (p := ⟨s + 1, 0, none⟩) (by simp) _⟩
        · have HM := Lib.hid h3
          have e : decide ((q : Int) ∈ pre.map Prod.snd) = false := decide_eq_false h3
          rw [e] at hf
          clear h3 e
          gi_wp2
          refine ⟨KeepsOthers.setCell _ _ _, (Below.refl n₀ W).setCell (p := ⟨s + 1 + 1, q, none⟩) (by simp; omega) _, ⟨okP_snoc.2 ⟨HO.out, by omega, by omega, HM.out⟩, boxed_set C0.out (by simp; omega), boxed_set C1.out (by simp), ?_, boxed_set C3.out (by simp)⟩, HB.out.setCell (p := ⟨s + 1 + 1, q, none⟩) (by simp; omega) _⟩
          rw [List.map_append]
          exact FL.out.set q
  case done =>
    rintro D ys W hD rfl ⟨⟨hok, c0, c1, fl, c3⟩, hB⟩ hK
    have k1 := c1.cell
    have z1 := c1.frozen
    have HO := Lib.hid hok
    have C1 := Lib.hid c1
    clear hok c0 fl c3 c1 hmk
    gi_wp2
    have hK' := (KeepsOthers.setCell W ⟨s + 1, 0, none⟩ (.bool true)).same D _ hK rfl
    refine ⟨by simp, .inl ⟨_, _, rfl, run_takeDeferred hK', ?_⟩⟩
    have hc5 := cell_kept (C1.out.set (.bool true)).cell (grownBy_putObj' _ D (.deferred none)) (fun r e => by cases e; exact ⟨_, hK', rfl⟩)
    refine ⟨.bool true, ?_, by rw [show kd T = true from decide_eq_true HO.out], hs0 ▸ (hB.setCell (p := ⟨s + 1, 0, none⟩) (by simp) _).trans (belowK_b (w := W0) (by omega) _ D _ _ (by omega) hK' rfl rfl)⟩
    simp [results, Tryz.f52, go_sem, hc5]
  case stop =>
    rintro D c pre W hD hp ⟨⟨rfl, hno, c1⟩, hB⟩ hK
    have HN := Lib.hid (show kd T = false from decide_eq_false (fun h => hno (okP_pre hp h)))
    clear hno hp hmk
    gi_wp2
    refine ⟨by simp, .inl ⟨_, _, rfl, run_takeDeferred hK, ?_⟩⟩
    have hc5 := cell_kept c1.cell (grownBy_putObj' _ D (.deferred none)) (fun r e => by cases e; exact ⟨_, hK, rfl⟩)
    refine ⟨.bool false, ?_, by rw [HN.out], hs0 ▸ hB.trans (belowK_b (w := W0) (by omega) W D _ _ (by omega) hK rfl rfl)⟩
    simp [results, Tryz.f52, go_sem, hc5]
theorem kidsm_any (A : Option Addr) (c n₀ : Nat) (T : List Tsk) (w : World) (hT : Tk n₀ w A T) (hn₀ : n₀ ≤ w.heap.size) (hs : Sm T) : Tells 52 #[.slice A T.length c] w (.bool (kd T)) :=
  (callsIn_wide (n := 3)).1 (kidsm_in 3 (Nat.le_refl _) A c n₀ T w hT hn₀ hs)
end Go.Proofs.YtlpkccpijloidaaGreat.Fo
namespace Go.Proofs.YtlpkccpijloidaaGreat.Fo
set_option maxRecDepth 100000
open Go.RowKit Go.Deep Go.Shelf
attribute [local go_sem] Oper.semAt_some
theorem may_any (A : Option Addr) (c n₀ : Nat) (T : List Tsk) (w : World) (hT : Tk n₀ w A T) (hn₀ : n₀ ≤ w.heap.size) (hs : Sm T) : Tells 25 #[.slice A T.length c] w (.bool (may T)) := by
  have HT := Lib.hid hT
  have HS := Lib.hid hs
  have hs1 := hs.1
  clear hT hs
  by_cases h : T.length ≤ 30
  · have h' : decide (T.length ≤ 30) = true := decide_eq_true h
    cases h2 : wk T
    · have E := Lib.hid (show may T = false by unfold may; rw [h2]; simp)
      have H2 := Lib.hid h2
      clear h2
      go_enter Tryz.func25, Tryz.ntmps25
      go_wp2_with fail
      refine (Tells.of (work_any A c n₀ T _ HT.out hn₀ hs1) (v' := .bool false) (by rw [H2.out])).mono ?_
      rintro _ w1 ⟨rfl, z1⟩
      have Z := Lib.hid z1
      clear z1
      go_wp2
      go_ret
      exact ⟨by rw [E.out]; rfl, Z.out⟩
    · have E := Lib.hid (show may T = kd T by unfold may; rw [h2, h']; simp)
      have H2 := Lib.hid h2
      clear h2
      go_enter Tryz.func25, Tryz.ntmps25
      go_wp2_with fail
      refine (Tells.of (work_any A c n₀ T _ HT.out hn₀ hs1) (v' := .bool true) (by rw [H2.out])).mono ?_
      rintro _ w1 ⟨rfl, z1⟩
      have Z := Lib.hid z1
      clear z1
      go_wp2_with fail
      refine (kidsm_any A c n₀ T _ (HT.out.below (Z.out.mono hn₀)) (Nat.le_trans hn₀ Z.out.size) HS.out).mono ?_
      rintro _ w2 ⟨rfl, z2⟩
      have Z2 := Lib.hid z2
      clear z2
      go_wp2
      go_ret
      exact ⟨by rw [E.out]; rfl, Z.out.trans (Z2.out.mono Z.out.size)⟩
  · have E := Lib.hid (show may T = false by unfold may; rw [decide_eq_false h]; simp)
    go_enter Tryz.func25, Tryz.ntmps25
    go_wp2
    go_ret
    exact ⟨by rw [E.out]; rfl, Below.refl _ _⟩
end Go.Proofs.YtlpkccpijloidaaGreat.Fo
