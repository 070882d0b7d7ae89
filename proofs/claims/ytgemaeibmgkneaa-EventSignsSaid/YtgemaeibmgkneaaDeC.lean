/- Contracts of slices.Repeat at one call, of slices.Clone of calls, and of the document's own comparison of calls. -/
import Derived.Test.YtgemaeibmgkneaaDeA
import Derived.Test.YtgemaeibmgkneaaFrH2
import Derived.Laws.OwnMore
import Derived.Laws.CopyRow
import Derived.Deep.RegionLaw
import Derived.Laws.Bits64b
import Derived.Test.YtgemaeibmgkneaaPuE
import Derived.Test.YtgemaeibmgkneaaPuF
namespace Go.Proofs.Ytgemaeibmgkneaa
open Go.RowKit Go.Deep
set_option maxRecDepth 100000 in
theorem Ow.set {w : World} {base g n c : Nat} {l : List Fr} (h : Ow w base (some ⟨g, 0, none⟩) n c l) {i : Nat} (hi : i < n) (f : Fr) : Ow (pk7 w g (i * 7) f) base (some ⟨g, 0, none⟩) n c (l.set i f) := by
  unfold Ow
  rw [flat_set l i f (by rw [h.len]; exact hi)]
  unfold Ow at h
  have h1 := (World.ownsRow.stored h (i * 7) (.int .i64 f.op)).1
  have h2 := (World.ownsRow.stored h1 (i * 7 + 1) (.int .i64 f.pc)).1
  have h3 := (World.ownsRow.stored h2 (i * 7 + 2) (.int .i64 f.who)).1
  have h4 := (World.ownsRow.stored h3 (i * 7 + 3) (.int .u64 f.val)).1
  have h5 := (World.ownsRow.stored h4 (i * 7 + 4) (.int .u64 f.x)).1
  have h6 := (World.ownsRow.stored h5 (i * 7 + 5) (.int .u64 f.y)).1
  exact (World.ownsRow.stored h6 (i * 7 + 6) (.int .i64 f.res)).1
set_option maxRecDepth 100000 in
theorem Ow.free {w : World} {base g n c : Nat} {l : List Fr} (h : Ow w base (some ⟨g, 0, none⟩) n c l) (j : Nat) : w.frozen? ⟨g, j, none⟩ = false := World.ownsRow.frozenAt h j
set_option maxRecDepth 100000 in
theorem Bg.ow {w : World} {g : Nat} {l : List Fr} (h : Bg w g l) {base : Nat} (hb : base ≤ g) {n : Nat} (hn : l.length = n) (hs : n ≤ 10000) : Ow w base (some ⟨g, 0, none⟩) n n l := by
  subst hn
  refine ⟨flat_len l, .inr ⟨g, l.length, _, rfl, hb, h, ?_⟩⟩
  refine ⟨Nat.le_refl _, by simp only [maxLen]; omega, by simp [flat_len], ?_⟩
  rw [← flat_len]
  simp
set_option maxRecDepth 100000 in
theorem bits_low (n : Nat) (hn : n ≤ 1000) : bits .and .u64 (n : Int) 4294967295 = (n : Int) := by
  have h := bits_and_u64_nat n 4294967295 (by omega) (by omega)
  have e : n &&& 4294967295 = n % 4294967296 := Nat.and_two_pow_sub_one_eq_mod n 32
  rw [e, Nat.mod_eq_of_lt (by omega)] at h
  exact h
set_option maxRecDepth 100000 in
theorem bits_one : bits .and .u64 1 4294967295 = 1 := by decide +kernel
set_option maxRecDepth 100000 in
theorem bits_zero : bits .and .u64 0 4294967295 = 0 := by decide +kernel
set_option maxRecDepth 100000 in
set_option maxHeartbeats 1000000 in
theorem mul64_one (n : Nat) (w : World) (hn : n ≤ 1000) : Gives 63 #[.int .u64 1, .int .u64 n] w (.tuple #[.int .u64 0, .int .u64 n]) := by
  have a1 := bits_low n hn
  have a2 := bits_one
  have a3 := bits_zero
  have s1 : (n : Int) / 4294967296 = 0 := by omega
  go_enter Try.func63, Try.ntmps63
  go_wp2
  go_ret2
  exact ⟨rfl, rfl⟩
set_option maxRecDepth 100000 in
theorem mul_one' (n : Nat) (w : World) (hn : n ≤ 1000) : Gives 42 #[.int .u64 1, .int .u64 n] w (.tuple #[.int .u64 0, .int .u64 n]) := by
  go_enter Try.func42, Try.ntmps42
  go_wp2_with (go_at_call 63; refine (mul64_one n _ hn).mono ?_; rintro _ w1 ⟨rfl, e1⟩; rw [e1]; clear e1 w1)
  go_ret2
  exact ⟨rfl, rfl⟩
/-- A row of N calls, the first j of which are f, the others noughts. -/
def fl (f : Fr) (N j : Nat) : List Fr := List.replicate j f ++ List.replicate (N - j) f0
set_option maxRecDepth 100000 in
theorem fl_len {f : Fr} {N j : Nat} (h : j ≤ N) : (fl f N j).length = N := by simp [fl]; omega
set_option maxRecDepth 100000 in
theorem flat_rep (f : Fr) (n : Nat) : flat (List.replicate n f) = (List.replicate n (pc f)).flatten := by
  unfold flat; rw [List.flatMap_def]; simp
set_option maxRecDepth 100000 in
theorem made_flat (N : Nat) : madeCells #[.int .i64 0, .int .i64 0, .int .i64 0, .int .u64 0, .int .u64 0, .int .u64 0, .int .i64 0] (N * 7) = (flat (List.replicate N f0)).toArray := by
  apply Array.ext
  · rw [size_madeCells]; simp [flat_len]
  · intro i h1 h2
    rw [size_madeCells] at h1
    have hx : (List.replicate N f0)[i / 7]? = some f0 := by rw [List.getElem?_replicate, if_pos (by omega)]
    have hm : i % 7 < 7 := Nat.mod_lt _ (by omega)
    have hg := flat_get _ _ _ hx (i % 7) hm
    rw [show i / 7 * 7 + i % 7 = i by omega] at hg
    have hl : i < (flat (List.replicate N f0)).length := by rw [flat_len, List.length_replicate]; exact h1
    have hr : (flat (List.replicate N f0)).toArray[i] = (flat (List.replicate N f0))[i] := by simp
    rw [hr]
    rw [List.getElem?_eq_getElem hl] at hg
    have hc : i % 7 = 0 ∨ i % 7 = 1 ∨ i % 7 = 2 ∨ i % 7 = 3 ∨ i % 7 = 4 ∨ i % 7 = 5 ∨ i % 7 = 6 := by omega
    simp only [madeCells, Array.getElem_map, Array.getElem_range, List.size_toArray, List.length_cons, List.length_nil, Nat.zero_add, Nat.reduceAdd]
    generalize (flat (List.replicate N f0))[i] = v at hg ⊢
    rcases hc with e | e | e | e | e | e | e <;> (rw [e] at hg ⊢; simp [pc, f0] at hg; rw [hg]; rfl)
set_option maxRecDepth 100000 in
theorem make_frs (N : Nat) (w : World) (hN : N ≤ 9) : (Instr.makeSlice 28 (.int .i64 N) (.int .i64 N)).run Try.prog w = .ok (.slice (some ⟨w.heap.size, 0, none⟩) N N) (w.alloc (.cells (flat (List.replicate N f0)).toArray 34)) := by
  obtain ⟨i0, hi0, hz'⟩ := Option.map_eq_some_iff.1 Try.info34
  simp only [Prod.mk.injEq] at hz'
  obtain ⟨hz0, hz1, hz2⟩ := hz'
  have := run_makeSlice (P := Try.prog) w 28 34 i0 _ Try.underlying28 hi0 hz0 .i64 .i64 N N (by omega) (Int.le_refl _) (by rw [hz1]; omega) (by rw [hz2]; omega) (by omega)
  rw [hz1] at this
  simp only [Int.toNat_natCast] at this
  rw [← made_flat N]
  exact this
set_option maxRecDepth 100000 in
theorem run_copy_frs (w : World) (ty : TypeId) (g o dLen dCap : Nat) (a : Addr) (sLen sCap : Nat) (cur : Array Value) (t : TypeId) (cs : List Value) (hg : w.heap[g]? = some (.cells cur t (0, 0))) (hn : cs.length = Nat.min sLen dLen * 7)
    (hsrc : ∀ j v, cs[j]? = some v → w.cell? (a.add j) = some v) (hfit : o + cs.length ≤ cur.size) (h1 : ∀ v ∈ cs, v.oneCell' = true) :
    (Builtin.copy_ #[28, 28] ty #[.slice (some ⟨g, o, none⟩) dLen dCap, .slice (some a) sLen sCap]).run Try.prog w =
      .ok (goInt (Nat.min sLen dLen)) (w.setRow g (cur.toList.take o ++ cs ++ cur.toList.drop (o + cs.length)).toArray) := by
  have hl := run_loadCells_list (P := Try.prog) w a cs hsrc
  have hst := run_storeCells_at Try.prog g o t cs 0 cur w hg (by simpa using hfit) h1
  obtain ⟨i0, hi0, hz'⟩ := Option.map_eq_some_iff.1 Try.info34
  simp only [Prod.mk.injEq] at hz'
  obtain ⟨hz0, hz1, hz2⟩ := hz'
  simp [Builtin.copy_, run_underlying Try.underlying28, Builtin.lenOf, Builtin.firstCells, sizeOf, typeInfo, hi0, hz1, ← hn, hl, hst]
set_option maxRecDepth 100000 in
theorem fl_splice {f : Fr} {N j k : Nat} (h : j + k ≤ N) : ((flat (fl f N j)).take (j * 7) ++ flat (List.replicate k f) ++ (flat (fl f N j)).drop (j * 7 + (flat (List.replicate k f)).length)) = flat (fl f N (j + k)) := by
  have e1 : (flat (fl f N j)).take (j * 7) = flat (List.replicate j f) := by
    unfold fl
    rw [flat_append, List.take_left' (by rw [flat_len]; simp)]
  have e2 : (flat (fl f N j)).drop (j * 7 + (flat (List.replicate k f)).length) = flat (List.replicate (N - (j + k)) f0) := by
    unfold fl
    rw [flat_append, flat_len, List.length_replicate, ← List.drop_drop, List.drop_left' (by rw [flat_len]; simp)]
    have : List.replicate (N - j) f0 = List.replicate k f0 ++ List.replicate (N - (j + k)) f0 := by
      rw [List.replicate_append_replicate]; congr 1; omega
    rw [this, flat_append, List.drop_left' (by rw [flat_len]; simp)]
  rw [e1, e2, ← flat_append, List.replicate_append_replicate, ← flat_append]
  rfl
set_option maxRecDepth 100000 in
theorem Bg.fl_cell {w : World} {g : Nat} {f : Fr} {N j : Nat} (h : Bg w g (fl f N j)) {k : Nat} (hk : k ≤ j) : ∀ i v, (flat (List.replicate k f))[i]? = some v → w.cell? ⟨g, i, none⟩ = some v := by
  intro i v hv
  have hi := (List.getElem?_eq_some_iff.1 hv).1
  rw [flat_len, List.length_replicate] at hi
  unfold Bg at h
  simp only [World.cell?, h]
  have e : List.replicate j f = List.replicate k f ++ List.replicate (j - k) f := by rw [List.replicate_append_replicate]; congr 1; omega
  have : (flat (fl f N j))[i]? = some v := by
    unfold fl
    rw [e, List.append_assoc, flat_append, List.getElem?_append_left (by rw [flat_len]; simpa using hi)]
    exact hv
  simpa using this
set_option maxRecDepth 100000 in
/-- The first j calls copied behind themselves. -/
theorem copy_more {w : World} {g N j B : Nat} {f : Fr} (hg : Bg w g (fl f N j)) (h0 : 1 ≤ j) (hj : j < N) (hB : B ≤ g) :
    ∃ k w', 1 ≤ k ∧ j + k ≤ N ∧ (Builtin.copy_ #[28, 28] 3 #[.slice (some ⟨g, j * 7, none⟩) (N - j) (N - j), .slice (some ⟨g, 0, none⟩) j N]).run Try.prog w = .ok (.int .i64 (k : Int)) w' ∧ Bg w' g (fl f N (j + k)) ∧ Below B w w' := by
  have hk2 : Nat.min j (N - j) ≤ N - j := Nat.min_le_right _ _
  have hk3 : 1 ≤ Nat.min j (N - j) := Nat.le_min.2 ⟨h0, by omega⟩
  have hr := run_copy_frs w 3 g (j * 7) (N - j) (N - j) ⟨g, 0, none⟩ j N (flat (fl f N j)).toArray 34 (flat (List.replicate (Nat.min j (N - j)) f)) hg (by rw [flat_len, List.length_replicate])
    (fun i v hv => by rw [add_zero']; exact hg.fl_cell (Nat.min_le_left _ _) i v hv) (by simp [flat_len, fl_len (show j ≤ N by omega)]; omega) (flat_one _)
  have e := fl_splice (f := f) (N := N) (j := j) (k := Nat.min j (N - j)) (by omega)
  simp only at hr
  rw [e] at hr
  exact ⟨Nat.min j (N - j), _, hk3, by omega, hr, setRow_heap w g _ _ 34 _ hg, below_setRow (Below.refl B w) hB _⟩
set_option maxRecDepth 100000 in
/-- The first copy. -/
theorem copy_first {w : World} {g N B X : Nat} {f : Fr} (hg : Bg w g (fl f N 0)) (hX : ∀ j v, (pc f)[j]? = some v → w.cell? ⟨X, j, none⟩ = some v) (hN : 1 ≤ N) (hB : B ≤ g) :
    ∃ w', (Builtin.copy_ #[28, 28] 3 #[.slice (some ⟨g, 0, none⟩) N N, .slice (some ⟨X, 0, none⟩) 1 1]).run Try.prog w = .ok (.int .i64 1) w' ∧ Bg w' g (fl f N 1) ∧ Below B w w' := by
  have h1 : Nat.min 1 N = 1 := Nat.min_eq_left hN
  have hr := run_copy_frs w 3 g 0 N N ⟨X, 0, none⟩ 1 1 (flat (fl f N 0)).toArray 34 (flat (List.replicate 1 f)) hg (by rw [flat_len, List.length_replicate, h1])
    (fun i v hv => by rw [add_zero']; exact hX i v (by simpa [flat] using hv)) (by simp [flat_len, fl_len (show 0 ≤ N by omega)]; omega) (flat_one _)
  have e := fl_splice (f := f) (N := N) (j := 0) (k := 1) (by omega)
  rw [Nat.zero_mul, Nat.zero_add] at e
  simp only [Nat.zero_add] at hr e
  rw [e, h1] at hr
  exact ⟨_, hr, setRow_heap w g _ _ 34 _ hg, below_setRow (Below.refl B w) hB _⟩
set_option maxRecDepth 100000 in
set_option maxHeartbeats 1000000 in
theorem repeat_any (X N : Nat) (f : Fr) (w : World) (hN : 1 ≤ N ∧ N ≤ 9) (hlt : X < w.heap.size) (hX : ∀ j v, (pc f)[j]? = some v → w.cell? ⟨X, j, none⟩ = some v) :
    Calls Try.prog 23 #[.slice (some ⟨X, 0, none⟩) 1 1, .int .i64 N] w fun e w' => e = .returned (.slice (some ⟨w.heap.size, 0, none⟩) N N) ∧ Bg w' w.heap.size (List.replicate N f) ∧ Below w.heap.size w w' := by
  have hmk := make_frs N w hN.2
  have hB0 : Bg (w.alloc (.cells (flat (List.replicate N f0)).toArray 34)) w.heap.size (fl f N 0) := by
    have := heap_alloc_new w (.cells (flat (List.replicate N f0)).toArray 34)
    unfold Bg fl
    simpa using this
  obtain ⟨w1, hcp, hg1, hb1⟩ := copy_first (B := w.heap.size) hB0 (fun j v hv => (Below.cell (p := ⟨X, j, none⟩) ((Below.refl w.heap.size w).alloc (Nat.le_refl _) _) hlt).trans (hX j v hv)) hN.1 (Nat.le_refl _)
  have HG := Lib.hid hg1
  have HB := Lib.hid (((Below.refl w.heap.size w).alloc (Nat.le_refl _) _).trans hb1)
  clear hg1 hb1 hB0
  obtain ⟨hN1, hN9⟩ := hN
  go_enter Try.func23, Try.ntmps23
  go_wp2_with (go_at_call 42; refine (mul_one' N _ (by omega)).mono ?_; rintro _ w1 ⟨rfl, e1⟩; rw [e1]; clear e1 w1)
  clear hmk hcp
  go_loopw [8] (fun x wr => ∃ j : Nat, x = .int .i64 j ∧ j ≤ N ∧ 1 ≤ j ∧ Bg wr w.heap.size (fl f N j) ∧ Below w.heap.size w wr) (fun x _ => N - (intOf x).toNat)
  case atStart => exact ⟨1, rfl, hN1, Nat.le_refl _, HG.out, HB.out⟩
  case round =>
    obtain ⟨j, rfl, hj, hj1, hg, hb⟩ := hrel
    by_cases hlt : j < N
    · have hne : ¬ N = j := by omega
      have i1 : (0 : Int) ≤ (j : Int) := by omega
      have i2 : (j : Int) ≤ (N : Int) := by omega
      obtain ⟨k, w2, hk1, hk2, hrun, hg2, hb2⟩ := copy_more (w := wr.drew) hg hj1 hlt (Nat.le_refl w.heap.size)
      have G2 := Lib.hid hg2
      have B2 := Lib.hid (hb.drew.trans hb2)
      clear hg hb hg2 hb2
      go_wp2
      go_region
      all_goals
        go_wp2
        go_roundw
        case rel => exact ⟨j + k, by go_num, by omega, by omega, G2.out, B2.out⟩
        case measure => simp [intOf]; omega
    · have G := Lib.hid hg
      have B := Lib.hid hb
      have E := Lib.hid (show j = N by omega)
      clear hg hb
      go_wp2
      go_ret
      refine ⟨rfl, ?_, B.out⟩
      have := G.out
      rw [E.out] at this
      simpa [fl] using this
end Go.Proofs.Ytgemaeibmgkneaa
