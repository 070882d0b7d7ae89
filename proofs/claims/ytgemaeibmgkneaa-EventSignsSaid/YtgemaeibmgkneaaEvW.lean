/- Few lists, and: the event is awake. -/
import Derived.Test.YtgemaeibmgkneaaEvV
namespace Go.Proofs.Ytgemaeibmgkneaa
open Go.RowKit Go.Deep Go.Shelf
/-- Lists of numbers lie at A. -/
def Rl (w : World) (A : Option Addr) (ls : List (List Int)) : Prop := ∃ vs, Rv w A vs ∧ Lr w.heap.size w vs ls
set_option maxRecDepth 100000 in
theorem Rl.below {w w' : World} {A : Option Addr} {ls : List (List Int)} (h : Rl w A ls) (hb : Below w.heap.size w w') : Rl w' A ls := by
  obtain ⟨vs, h1, h2⟩ := h
  exact ⟨vs, h1.below hb, h2.later hb⟩
set_option maxRecDepth 100000 in
theorem Rl.at {w : World} {A : Option Addr} {ls : List (List Int)} (h : Rl w A ls) {j : Nat} (hj : j < ls.length) : ∃ ad B c, A = some ad ∧ ad.block < w.heap.size ∧ w.cell? (ad.add j) = some (.slice B ls[j].length c) ∧ ls[j].length ≤ c ∧ Pn w.heap.size w B ls[j] := by
  obtain ⟨vs, h1, h2⟩ := h
  have hv : j < vs.length := by rw [h2.len]; exact hj
  obtain ⟨ad, e, hlt, hc⟩ := h1 (by omega)
  obtain ⟨B, c, k1, k2, k3⟩ := h2.at_ j ls[j] (List.getElem?_eq_getElem hj)
  exact ⟨ad, B, c, e, hlt, hc j _ k1, k2, k3⟩
set_option maxRecDepth 100000 in
/-- Play, at a known outcome. -/
theorem play_n {A B : Option Addr} {nc cc nw cw : Nat} {calls : List (List Int)} {who : List Int} {w : World} (hA : Rl w A calls) (hB : Ri w B who) (hnc : calls.length = nc) (hnw : who.length = nw) (hw5 : nw ≤ 504) (h5 : ∀ l ∈ calls, l.length ≤ 500) {m : List Int} {a over : List Fr} (e : plE calls who = (m, a, over)) :
    Calls Try.prog 11 #[.slice A nc cc, .slice B nw cw] w (RetPl w m a over) := by
  obtain ⟨vs, h1, h2⟩ := hA
  have := play_any A B nc cc nw cw vs calls who w h1 h2 hB hnc hnw hw5 h5
  rw [e] at this
  exact this
set_option maxRecDepth 100000 in
theorem states_n {A B : Option Addr} {nc cc nw cw : Nat} {x v : Int} {calls : List (List Int)} {who : List Int} {w : World} (hA : Rl w A calls) (hB : Ri w B who) (hnc : calls.length = nc) (hnw : who.length = nw) (hw5 : nw ≤ 504) (h5 : ∀ l ∈ calls, l.length ≤ 500) (e : stE calls who x = v) :
    Tells 12 #[.slice A nc cc, .slice B nw cw, .int .i64 x] w (.int .i64 v) := by
  obtain ⟨vs, h1, h2⟩ := hA
  have := states_any A B nc cc nw cw x vs calls who w h1 h2 hB hnc hnw hw5 h5
  rw [e] at this
  exact this
/-- Are there at most 10 lists of at most 30 calls each? -/
def fewE (ls : List (List Int)) : Bool := (ls.take 11).all (fun l => decide (l.length ≤ 30)) && decide (ls.length ≤ 10)
set_option maxRecDepth 100000 in
theorem fewE_of {ls : List (List Int)} (h : fewE ls = true) : ls.length ≤ 10 ∧ ∀ l ∈ ls, l.length ≤ 30 := by
  unfold fewE at h
  simp only [Bool.and_eq_true, decide_eq_true_eq, List.all_eq_true] at h
  refine ⟨h.2, fun l hl => h.1 l ?_⟩
  rw [List.take_of_length_le (by omega)]; exact hl
set_option maxHeartbeats 1000000 in
set_option maxRecDepth 100000 in
theorem few_any (A : Option Addr) (n c : Nat) (ls : List (List Int)) (w : World) (h : Rl w A ls) (hn : ls.length = n) :
    Tells 10 #[.slice A n c] w (.bool (fewE ls)) := by
  have H := Lib.hid h
  have HN := Lib.hid hn
  clear h hn
  go_enter Try.func10, Try.ntmps10
  go_wp2
  go_loopw [3] (fun x wr => ∃ j : Nat, x = .int .i64 j ∧ j ≤ n ∧ j ≤ 11 ∧ Hid ((ls.take j).all (fun l => decide (l.length ≤ 30)) = true) ∧ Hid (Below w.heap.size w wr)) (fun x _ => n - (intOf x).toNat)
  case atStart => exact ⟨0, rfl, by omega, by omega, Lib.hid (by simp), Lib.hid (Below.refl _ _)⟩
  case round =>
    obtain ⟨j, rfl, hj, hj9, hX, hZ⟩ := hrel
    by_cases hlt : j < n ∧ j ≤ 10
    · obtain ⟨h1, h2⟩ := hlt
      have d1 : decide ((j : Int) < (n : Int)) = true := decide_eq_true (by omega)
      have d2 : decide ((j : Int) ≤ 10) = true := decide_eq_true (by omega)
      have hL : j < ls.length := by rw [HN.out]; exact h1
      obtain ⟨ad, B, cB, rfl, hal, hx, _, _⟩ := (H.out.below hZ.out).at hL
      obtain ⟨m, hm⟩ : ∃ m, ls[j].length = m := ⟨_, rfl⟩
      rw [hm] at hx
      by_cases h30 : m ≤ 30
      · have d3 : decide ((m : Int) > 30) = false := decide_eq_false (by omega)
        have hXn := Lib.hid (show (ls.take (j + 1)).all (fun l => decide (l.length ≤ 30)) = true by
          rw [List.take_succ_eq_append_getElem hL, List.all_append, hX.out]
          simp [hm, h30])
        clear hX hm
        go_wp2
        go_roundw
        case rel => exact ⟨j + 1, by go_num, by omega, by omega, hXn, hZ⟩
        case measure => simp [intOf]; omega
      · have d3 : decide ((m : Int) > 30) = true := decide_eq_true (by omega)
        have hE : fewE ls = false := by
          unfold fewE
          have : ls[j] ∈ ls.take 11 := by
            rw [List.mem_take_iff_getElem]
            exact ⟨j, by omega, rfl⟩
          rw [Bool.and_eq_false_iff]
          left
          rw [List.all_eq_false]
          exact ⟨_, this, by simp [hm]; omega⟩
        have HE := Lib.hid hE
        clear hX hm hE
        go_wp2
        go_ret
        exact ⟨by rw [HE.out]; rfl, hZ.out⟩
    · have hE : fewE ls = decide (n ≤ 10) := by
        unfold fewE
        rw [HN.out]
        by_cases h8 : n ≤ 10
        · have e : ls.take 11 = ls.take j := by rw [List.take_of_length_le (by have := HN.out; omega), List.take_of_length_le (by have := HN.out; omega)]
          rw [e, hX.out]; simp
        · simp [h8]
      have HE := Lib.hid hE
      by_cases h1 : j < n
      · have d1 : decide ((j : Int) < (n : Int)) = true := decide_eq_true (by omega)
        have d2 : decide ((j : Int) ≤ 10) = false := decide_eq_false (by omega)
        have d3 : decide ((n : Int) ≤ 10) = false := decide_eq_false (by omega)
        have d4 : decide (n ≤ 10) = false := decide_eq_false (by omega)
        rw [d4] at hE
        have HE := Lib.hid hE
        clear hX hE d4
        go_wp2
        go_ret
        exact ⟨by rw [HE.out]; rfl, hZ.out⟩
      · have d1 : decide ((j : Int) < (n : Int)) = false := decide_eq_false (by omega)
        by_cases h8 : n ≤ 10
        · have d3 : decide ((n : Int) ≤ 10) = true := decide_eq_true (by omega)
          have d4 : decide (n ≤ 10) = true := decide_eq_true h8
          rw [d4] at hE
          have HE := Lib.hid hE
          clear hX hE d4 h8
          go_wp2
          go_ret
          exact ⟨by rw [HE.out]; rfl, hZ.out⟩
        · have d3 : decide ((n : Int) ≤ 10) = false := decide_eq_false (by omega)
          have d4 : decide (n ≤ 10) = false := decide_eq_false h8
          rw [d4] at hE
          have HE := Lib.hid hE
          clear hX hE d4 h8
          go_wp2
          go_ret
          exact ⟨by rw [HE.out]; rfl, hZ.out⟩
set_option maxRecDepth 100000 in
theorem lit_cell {w : World} {g : Nat} {l : List Int} (h : w.heap[g]? = some (.cells (l.map (Value.int .i64)).toArray 3 (0, 0))) {j : Nat} {u : Int} (hu : l[j]? = some u) : w.cell? ⟨g, 0 + j, none⟩ = some (.int .i64 u) := by
  rw [Nat.zero_add]
  simp only [World.cell?, h]
  simp [hu]
def aw0 : List (List Int) := [[5], [6]]
set_option maxRecDepth 100000 in
theorem aw_play : (plE aw0 [0, 0, 0, 1, 1, 1, 0, 0]).2.2.length = 2 ∧ ((plE aw0 [0, 0, 0, 1, 1, 1, 0, 0]).2.2.getD 1 fnE).who = 0 ∧ ((plE aw0 [0, 0, 0, 1, 1, 1, 0, 0]).2.2.getD 1 fnE).res = 1 ∧ (plE aw0 [0, 0, 0, 1, 1, 1, 0, 0]).2.1.length = 2 ∧ (plE aw0 [0, 0, 0, 1, 1, 1, 0, 0]).1.length = 16 := by decide +kernel
set_option maxRecDepth 100000 in
theorem aw_s3 : stE aw0 [0, 0, 0] 0 = 1 := by decide +kernel
set_option maxRecDepth 100000 in
theorem aw_s6 : stE aw0 [0, 0, 0, 1, 1, 1] 0 = 1 := by decide +kernel
set_option maxRecDepth 100000 in
theorem aw_s0 : stE aw0 [] 0 = 0 := by decide +kernel
set_option maxHeartbeats 4000000 in
set_option maxRecDepth 100000 in
theorem awake_any (w : World) : Tells 9 #[] w (.bool true) := by
  have b1 : Below w.heap.size w (w.alloc (.cells #[.int .i64 5] 3)) := bel_alloc _ _
  have g1 : (w.alloc (.cells #[.int .i64 5] 3)).heap[w.heap.size]? = some (.cells (([5] : List Int).map (Value.int .i64)).toArray 3 (0, 0)) := heap_alloc_new _ _
  have s1 : (w.alloc (.cells #[.int .i64 5] 3)).heap.size = w.heap.size + 1 := by simp
  go_enter Try.func9, Try.ntmps9
  go_upto_region 2 with fail
  change Code.wp _ _ _ _ (((w.alloc (.cells #[.int .i64 5] 3)).alloc (.cells #[.int .i64 6] 3)).alloc (.cells #[.slice (some ⟨w.heap.size, 0, none⟩) 1 1, .slice (some ⟨w.heap.size + 1, 0, none⟩) 1 1] 23))
  generalize w.alloc (.cells #[.int .i64 5] 3) = w1 at b1 g1 s1 ⊢
  have b2 : Below w1.heap.size w1 (w1.alloc (.cells #[.int .i64 6] 3)) := bel_alloc _ _
  have g2 : (w1.alloc (.cells #[.int .i64 6] 3)).heap[w1.heap.size]? = some (.cells (([6] : List Int).map (Value.int .i64)).toArray 3 (0, 0)) := heap_alloc_new _ _
  have s2 : (w1.alloc (.cells #[.int .i64 6] 3)).heap.size = w1.heap.size + 1 := by simp
  generalize w1.alloc (.cells #[.int .i64 6] 3) = w2 at b2 g2 s2 ⊢
  have b3 : Below w2.heap.size w2 (w2.alloc (.cells #[.slice (some ⟨w.heap.size, 0, none⟩) 1 1, .slice (some ⟨w.heap.size + 1, 0, none⟩) 1 1] 23)) := bel_alloc _ _
  have g3 : (w2.alloc (.cells #[.slice (some ⟨w.heap.size, 0, none⟩) 1 1, .slice (some ⟨w.heap.size + 1, 0, none⟩) 1 1] 23)).heap[w2.heap.size]? = some (.cells #[.slice (some ⟨w.heap.size, 0, none⟩) 1 1, .slice (some ⟨w.heap.size + 1, 0, none⟩) 1 1] 23 (0, 0)) := heap_alloc_new _ _
  have s3 : (w2.alloc (.cells #[.slice (some ⟨w.heap.size, 0, none⟩) 1 1, .slice (some ⟨w.heap.size + 1, 0, none⟩) 1 1] 23)).heap.size = w2.heap.size + 1 := by simp
  generalize w2.alloc (.cells #[.slice (some ⟨w.heap.size, 0, none⟩) 1 1, .slice (some ⟨w.heap.size + 1, 0, none⟩) 1 1] 23) = w3 at b3 g3 s3 ⊢
  have hz : Below w.heap.size w w3 := (b1.trans (b2.mono (by omega))).trans (b3.mono (by omega))
  have k1 : w3.heap[w.heap.size]? = some (.cells (([5] : List Int).map (Value.int .i64)).toArray 3 (0, 0)) := (b3.block _ (by omega)).trans ((b2.block _ (by omega)).trans g1)
  have k2 : w3.heap[w.heap.size + 1]? = some (.cells (([6] : List Int).map (Value.int .i64)).toArray 3 (0, 0)) := (b3.block _ (by omega)).trans (by rw [← s1]; exact g2)
  have k3 : w3.heap[w.heap.size + 1 + 1]? = some (.cells #[.slice (some ⟨w.heap.size, 0, none⟩) 1 1, .slice (some ⟨w.heap.size + 1, 0, none⟩) 1 1] 23 (0, 0)) := by rw [s2, s1] at g3; exact g3
  have p1 : Pn w3.heap.size w3 (some ⟨w.heap.size, 0, none⟩) [5] := fun _ => ⟨_, _, rfl, by omega, fun j u hu => lit_cell k1 hu⟩
  have p2 : Pn w3.heap.size w3 (some ⟨w.heap.size + 1, 0, none⟩) [6] := fun _ => ⟨_, _, rfl, by omega, fun j u hu => lit_cell k2 hu⟩
  have hR : Rl w3 (some ⟨w.heap.size + 1 + 1, 0, none⟩) aw0 := by
    refine ⟨[.slice (some ⟨w.heap.size, 0, none⟩) 1 1, .slice (some ⟨w.heap.size + 1, 0, none⟩) 1 1], fun _ => ⟨_, rfl, by simp only; omega, fun j u hu => ?_⟩, rfl, fun i l hl => ?_⟩
    · rw [add_zero']
      simp only [World.cell?, k3]
      simpa using hu
    · rcases i with _ | _ | i
      · cases hl; exact ⟨_, 1, rfl, Nat.le_refl _, p1⟩
      · cases hl; exact ⟨_, 1, rfl, Nat.le_refl _, p2⟩
      · simp [aw0] at hl
  have h5 : ∀ l ∈ aw0, l.length ≤ 500 := fun l hl => by
    simp only [aw0, List.mem_cons, List.not_mem_nil, or_false] at hl
    rcases hl with rfl | rfl <;> simp
  have HR := Lib.hid hR
  have HZ := Lib.hid hz
  have H5 := Lib.hid h5
  clear b1 g1 s1 b2 g2 s2 b3 g3 s3 hz k1 k2 k3 p1 p2 hR h5
  go_wp2_with fail
  have r8 : Ri (w3.alloc (.cells #[.int .i64 0, .int .i64 0, .int .i64 0, .int .i64 1, .int .i64 1, .int .i64 1, .int .i64 0, .int .i64 0] 3)) (some ⟨w3.heap.size, 0, none⟩) [0, 0, 0, 1, 1, 1, 0, 0] := ri_new w3 [0, 0, 0, 1, 1, 1, 0, 0]
  have z4 := bel_alloc w3 (.cells #[.int .i64 0, .int .i64 0, .int .i64 0, .int .i64 1, .int .i64 1, .int .i64 1, .int .i64 0, .int .i64 0] 3)
  generalize w3.alloc (.cells #[.int .i64 0, .int .i64 0, .int .i64 0, .int .i64 1, .int .i64 1, .int .i64 1, .int .i64 0, .int .i64 0] 3) = w4 at r8 z4 ⊢
  have HR4 := Lib.hid (HR.out.below z4)
  have HZ4 := Lib.hid (HZ.out.trans (z4.mono HZ.out.size))
  obtain ⟨p1, p2, p3, p4, p6⟩ := aw_play
  obtain ⟨⟨sm, sa, so⟩, hs⟩ : ∃ s, plE aw0 [0, 0, 0, 1, 1, 1, 0, 0] = s := ⟨_, rfl⟩
  rw [hs] at p1 p2 p3 p4 p6
  refine (play_n HR4.out r8 rfl rfl (by simp) H5.out hs).mono ?_
  rintro _ w5 ⟨Am, cm, Ao, co, Aa, ca, rfl, rm, ro, hco, ra, hca, z5⟩
  simp only at p1 p2 p3 p4 p6
  rw [p1, p4, p6]
  have HR5 := Lib.hid (HR4.out.below z5)
  have HZ5 := Lib.hid (HZ4.out.trans (z5.mono HZ4.out.size))
  have RO := Lib.hid ro
  have P1 := Lib.hid p1
  have P23 := Lib.hid (And.intro p2 p3)
  clear r8 z4 hs p1 p2 p3 p4 p6 rm ro ra hca hco z5 HR HZ HR4 HZ4
  go_wp2_with fail
  have r3 : Ri (w5.alloc (.cells #[.int .i64 0, .int .i64 0, .int .i64 0] 3)) (some ⟨w5.heap.size, 0, none⟩) [0, 0, 0] := ri_new w5 [0, 0, 0]
  have z6 := bel_alloc w5 (.cells #[.int .i64 0, .int .i64 0, .int .i64 0] 3)
  generalize w5.alloc (.cells #[.int .i64 0, .int .i64 0, .int .i64 0] 3) = w6 at r3 z6 ⊢
  have HR6 := Lib.hid (HR5.out.below z6)
  have HZ6 := Lib.hid (HZ5.out.trans (z6.mono HZ5.out.size))
  have RO6 := Lib.hid (RO.out.later z6)
  refine (states_n HR6.out r3 rfl rfl (by simp) H5.out aw_s3).mono ?_
  rintro _ w7 ⟨rfl, z7⟩
  have HR7 := Lib.hid (HR6.out.below z7)
  have HZ7 := Lib.hid (HZ6.out.trans (z7.mono HZ6.out.size))
  have RO7 := Lib.hid (RO6.out.later z7)
  clear r3 z6 z7 HR5 HZ5 HR6 HZ6 RO RO6
  go_wp2_with fail
  have r6 : Ri (w7.alloc (.cells #[.int .i64 0, .int .i64 0, .int .i64 0, .int .i64 1, .int .i64 1, .int .i64 1] 3)) (some ⟨w7.heap.size, 0, none⟩) [0, 0, 0, 1, 1, 1] := ri_new w7 [0, 0, 0, 1, 1, 1]
  have z8 := bel_alloc w7 (.cells #[.int .i64 0, .int .i64 0, .int .i64 0, .int .i64 1, .int .i64 1, .int .i64 1] 3)
  generalize w7.alloc (.cells #[.int .i64 0, .int .i64 0, .int .i64 0, .int .i64 1, .int .i64 1, .int .i64 1] 3) = w8 at r6 z8 ⊢
  have HR8 := Lib.hid (HR7.out.below z8)
  have HZ8 := Lib.hid (HZ7.out.trans (z8.mono HZ7.out.size))
  have RO8 := Lib.hid (RO7.out.later z8)
  refine (states_n HR8.out r6 rfl rfl (by simp) H5.out aw_s6).mono ?_
  rintro _ w9 ⟨rfl, z9⟩
  have HR9 := Lib.hid (HR8.out.below z9)
  have HZ9 := Lib.hid (HZ8.out.trans (z9.mono HZ8.out.size))
  have RO9 := Lib.hid (RO8.out.later z9)
  clear r6 z8 z9 HR7 HZ7 HR8 HZ8 RO7 RO8
  obtain ⟨b, off, rfl, hb, c1⟩ := RO9.out.at (i := 1) (by rw [P1.out]; omega)
  have hg1 : so[1]'(by rw [P1.out]; omega) = so.getD 1 fnE := by rw [List.getD_eq_getElem?_getD, List.getElem?_eq_getElem]; rfl
  rw [hg1] at c1
  obtain ⟨h1, h2⟩ := P23.out
  have x1 := c1.c2
  have x2 := c1.c6
  rw [h1] at x1
  rw [h2] at x2
  simp only [Nat.one_mul] at x1 x2
  clear hg1 h1 h2 c1 RO9
  go_wp2_with fail
  refine (states_n (B := none) (who := []) (cw := 0) HR9.out (fun h => by simp at h) rfl rfl (by simp) H5.out aw_s0).mono ?_
  rintro _ wa ⟨rfl, za⟩
  have HZa := Lib.hid (HZ9.out.trans (za.mono HZ9.out.size))
  clear za x1 x2
  go_wp2
  go_ret
  exact ⟨rfl, HZa.out⟩
end Go.Proofs.Ytgemaeibmgkneaa
