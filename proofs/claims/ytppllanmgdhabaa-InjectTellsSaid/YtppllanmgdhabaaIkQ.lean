/- Contract of Play. -/
import Derived.Test.YtppllanmgdhabaaIkP
import Derived.Test.YtppllanmgdhabaaLaC
import Derived.Stop.RegionWithIn
import Derived.Deep.RegionHeld3
namespace Go.Proofs.Ytppllanmgdhabaa
open Go.RowKit Go.Deep Go.Shelf
attribute [local go_sem] Oper.semAt_some run_store_func run_makeFunc
/-- What a play leaves. -/
def RetPl (w : World) (m : List Int) (a over : List Fr) (e : Ending) (w' : World) : Prop :=
  ∃ Am cm Ao co Aa ca, e = .returned (.tuple #[.slice Am m.length cm, .slice Ao over.length co, .slice Aa a.length ca]) ∧ Rd w' Am m ∧ Pr w'.heap.size w' Ao over ∧ over.length ≤ co ∧ Pr w'.heap.size w' Aa a ∧ Below w.heap.size w w'
set_option maxRecDepth 100000 in
set_option maxHeartbeats 1000000 in
theorem repeat_zero (X : Nat) (w : World) :
    Calls Try.prog 35 #[.slice (some ⟨X, 0, none⟩) 1 1, .int .i64 0] w fun e w' => e = .returned (.slice (some ⟨w.heap.size, 0, none⟩) 0 0) ∧ Bg w' w.heap.size [] ∧ Below w.heap.size w w' := by
  have hmk : (Instr.makeSlice 31 (.int .i64 0) (.int .i64 0)).run Try.prog w = .ok (.slice (some ⟨w.heap.size, 0, none⟩) 0 0) (w.alloc (.cells (flat []).toArray 28)) := make_frs 0 w (by omega)
  have hB0 : Bg (w.alloc (.cells (flat []).toArray 28)) w.heap.size [] := by
    have := heap_alloc_new w (.cells (flat []).toArray 28)
    unfold Bg
    simpa using this
  have hcp := run_copy_frs (w.alloc (.cells (flat []).toArray 28)) 3 w.heap.size 0 0 0 ⟨X, 0, none⟩ 1 1 #[] 28 [] hB0 rfl (fun j v h => by simp at h) (by simp) (by simp)
  have hg1 := setRow_heap (w.alloc (.cells (flat []).toArray 28)) w.heap.size #[] #[] 28 (0, 0) hB0
  have hb1 := below_setRow (Below.refl w.heap.size (w.alloc (.cells (flat []).toArray 28))) (Nat.le_refl _) #[]
  simp only [List.take_nil, List.drop_nil, List.append_nil] at hcp
  have HB := Lib.hid (((Below.refl w.heap.size w).alloc (Nat.le_refl _) (.cells (flat []).toArray 28)).trans hb1)
  have HG := Lib.hid hg1
  clear hb1 hg1 hB0
  go_enter Try.func35, Try.ntmps35
  go_wp2_with (go_at_call 71; refine (mul_one' 0 _ (by omega)).mono ?_; rintro _ w1 ⟨rfl, e1⟩; rw [e1]; clear e1 w1)
  clear hmk hcp
  go_loopw [8] (fun x wr => x = .int .i64 0 ∧ Bg wr w.heap.size [] ∧ Below w.heap.size w wr) (fun _ _ => 0)
  case atStart => exact ⟨rfl, HG.out, HB.out⟩
  case round =>
    obtain ⟨rfl, hg, hb⟩ := hrel
    have G := Lib.hid hg
    have B := Lib.hid hb
    clear hg hb
    go_wp2
    go_ret
    exact ⟨rfl, G.out, B.out⟩
theorem repeat_le (X N : Nat) (f : Fr) (w : World) (hN : N ≤ 9) (hlt : X < w.heap.size) (hX : ∀ j v, (pc f)[j]? = some v → w.cell? ⟨X, j, none⟩ = some v) :
    Calls Try.prog 35 #[.slice (some ⟨X, 0, none⟩) 1 1, .int .i64 N] w fun e w' => e = .returned (.slice (some ⟨w.heap.size, 0, none⟩) N N) ∧ Bg w' w.heap.size (List.replicate N f) ∧ Below w.heap.size w w' := by
  rcases Nat.eq_zero_or_pos N with rfl | h
  · exact repeat_zero X w
  · exact repeat_any X N f w ⟨h, hN⟩ hlt hX
set_option maxRecDepth 100000 in
set_option maxHeartbeats 8000000 in
theorem play_in0 (n : Nat) (J : Int) (A B : Option Addr) (nc cc nw cw : Nat) (vs : List Value) (calls : List (List Fr)) (who : List Int) (w : World) (hA : Rv w A vs) (hL : Ls w.heap.size w vs calls) (hB : Ri w B who) (hnc : calls.length = nc) (hnw : who.length = nw) (hw5 : nw ≤ 504) (h8 : nc ≤ 8) (h0 : nc = 0) (hm : may 1 1 J 0 = true) (hu : ∀ l ∈ calls, ∀ f ∈ l, UF f) (h5 : ∀ l ∈ calls, l.length ≤ 500) :
    CallsIn Fence.wide n Try.prog 14 #[.int .i64 J, .slice A nc cc, .slice B nw cw] w (RetPl w (playI J calls who).m (playI J calls who).a (playI J calls who).over) := by
  have HA := Lib.hid hA
  have HL := Lib.hid hL
  have HW := Lib.hid hB
  have HM := Lib.hid hm
  have HU := Lib.hid (And.intro hu h5)
  have HNC := Lib.hid hnc
  have HNW := Lib.hid hnw
  have t1 : decide ((nc : Int) > 8) = false := decide_eq_false (by omega)
  have H00 := Lib.hid h0
  clear hA hL hB hm hu h5 hnc hnw h0
  refine callsIn_of_wp_marks Try.func14 rfl trivial ?_ rfl
  simp only [Try.ntmps14, List.size_toArray, List.length_cons, List.length_nil, Nat.reduceAdd, Nat.reduceSub, Array.replicate_succ, Array.replicate_zero, List.push_toArray, List.append_toArray, List.nil_append, List.cons_append]
  gi_wp2_with fail
  refine ⟨trivial, (fun h => by cases h), ?_⟩
  refine (callsIn_wide.2 (layout_any J _)).mono ?_
  rintro _ w1 ⟨rfl, z1⟩
  have Z := Lib.hid z1
  have hz1 := z1.size
  clear z1
  gi_wp2_with fail
  refine ⟨trivial, (fun h => by cases h), ?_⟩
  have bx := Bx.mk w1 1 1 J 0 23
  have hb1 : Below w.heap.size w (w1.alloc (.cells #[.int .i64 1, .int .i64 1, .int .i64 J, .int .i64 0] 23)) := Z.out.alloc hz1 _
  refine (callsIn_wide.2 (Tells.of (may_any 1 1 J 0 _) (v' := .bool true) (by rw [HM.out]))).mono ?_
  rintro _ w2 ⟨rfl, z2⟩
  have Z2 := Lib.hid (hb1.trans (z2.mono (by have := hb1.size; omega)))
  have BX2 := Lib.hid (bx.below z2)
  have hz2 := Z2.out.size
  have hz21 : w1.heap.size + 1 ≤ w2.heap.size := by have := z2.size; simpa using this
  clear z2 bx hb1
  obtain ⟨_, b0, b1, b2, b3⟩ := BX2.out
  gi_wp2_with fail
  refine ⟨trivial, (fun h => by cases h), ?_⟩
  refine (callsIn_wide.2 (new_any 1 1 J 0 _)).mono ?_
  rintro _ w3 ⟨Am, cm, rfl, rm, z3⟩
  have Z3 := Lib.hid (Z2.out.trans (z3.mono hz2))
  have BX3 := Lib.hid (BX2.out.below z3)
  have RM3 := Lib.hid rm
  have hz3 := z3.size
  clear z3 rm b0 b1 b2 b3 BX2 Z2
  gi_wp2_with fail
  refine ⟨trivial, (fun h => by cases h), ?_⟩
  refine (callsIn_wide.2 (nocall_any _)).mono ?_
  rintro _ w4 ⟨rfl, z4⟩
  have Z4 := Lib.hid (Z3.out.trans (z4.mono (by omega)))
  have BX4 := Lib.hid (BX3.out.below z4)
  have RM4 := Lib.hid (RM3.out.below z4)
  have hz4 := z4.size
  clear z4 BX3 RM3 Z3
  gi_wp2_with fail
  refine ⟨trivial, (fun h => by cases h), ?_⟩
  have bel4 : Below w4.heap.size w4 (w4.alloc (.cells #[.int .i64 (-1), .int .i64 0, .int .i64 0, .int .u64 0, .int .u64 0, .int .u64 0, .int .i64 0] 28)) := (Below.refl _ _).alloc (Nat.le_refl _) _
  have hRep := repeat_le w4.heap.size nc fno (w4.alloc (.cells #[.int .i64 (-1), .int .i64 0, .int .i64 0, .int .u64 0, .int .u64 0, .int .u64 0, .int .i64 0] 28)) (by omega) (by simp) (pc_new w4 fno)
  refine (callsIn_wide.2 hRep).mono ?_
  rintro _ w5 ⟨rfl, bg5, z5⟩
  have Z5 := Lib.hid (Z4.out.trans (bel4.mono (by omega)) |>.trans (z5.mono (by simp; omega)))
  have BX5 := Lib.hid ((BX4.out.below bel4).below z5)
  have RM5 := Lib.hid ((RM4.out.below bel4).below z5)
  have hz5 : w4.heap.size + 1 ≤ w5.heap.size := by have := z5.size; simpa using this
  have BG5 := Lib.hid bg5
  clear z5 bg5 BX4 Z4 hRep bel4
  gi_wp2_with fail
  refine ⟨trivial, (fun h => by cases h), ?_⟩
  have n1 := Boxed.new w5 25 (.slice Am (sz 1 1 J 0).toNat cm)
  have n2 := Boxed.new (w5.alloc (.cells #[.slice Am (sz 1 1 J 0).toNat cm] 25)) 31 (.slice (some ⟨w4.heap.size + 1, 0, none⟩) nc nc)
  rw [World.size_alloc] at n2
  have n1' := n1.alloc (.cells #[.slice (some ⟨w4.heap.size + 1, 0, none⟩) nc nc] 31)
  have y0 : Below w5.heap.size w5 ((w5.alloc (.cells #[.slice Am (sz 1 1 J 0).toNat cm] 25)).alloc (.cells #[.slice (some ⟨w4.heap.size + 1, 0, none⟩) nc nc] 31)) := ((Below.refl _ _).alloc (Nat.le_refl _) _).alloc (by simp) _
  have hy0 : ((w5.alloc (.cells #[.slice Am (sz 1 1 J 0).toNat cm] 25)).alloc (.cells #[.slice (some ⟨w4.heap.size + 1, 0, none⟩) nc nc] 31)).heap.size = w5.heap.size + 2 := by simp
  generalize (w5.alloc (.cells #[.slice Am (sz 1 1 J 0).toNat cm] 25)).alloc (.cells #[.slice (some ⟨w4.heap.size + 1, 0, none⟩) nc nc] 31) = v5 at n1' n2 y0 hy0 ⊢
  have hws5 := Z5.out.size
  refine (callsIn_wide.2 (clones_any A nc cc vs v5 (HA.out.below (Z5.out.trans (y0.mono hws5))) HL.out.sli (HL.out.len.trans HNC.out) (by omega))).mono ?_
  rintro _ w6 ⟨Al, cl, rfl, os6, z6⟩
  have hz6 := z6.size
  have N1 := Lib.hid (show Boxed w6 w5.heap.size 25 _ from (z6.block _ (by omega)).trans n1')
  have N2 := Lib.hid (show Boxed w6 (w5.heap.size + 1) 31 _ from (z6.block _ (by omega)).trans n2)
  have Y6 := Lib.hid (y0.trans (z6.mono (by omega)))
  have OS6 := Lib.hid os6
  clear n1 n2 n1' y0 z6 os6
  gi_wp2_with (refine ⟨trivial, (fun h => by cases h), ?_⟩; gi_at_call 38; refine (turns_in _ _ _ _ _ _).mono ?_; rintro e w' ⟨rfl, rfl⟩)
  have q1 := Boxed.new w6 29 (.slice Al nc cl)
  have e1 : (w6.alloc (.cells #[.slice Al nc cl] 29)).heap.size = w6.heap.size + 1 := by simp
  have y1 : Below w6.heap.size w6 (w6.alloc (.cells #[.slice Al nc cl] 29)) := bel_alloc _ _
  generalize w6.alloc (.cells #[.slice Al nc cl] 29) = x1 at q1 e1 y1 ⊢
  have q2 := Boxed.new x1 31 (.slice none 0 0)
  have e2 : (x1.alloc (.cells #[.slice none 0 0] 31)).heap.size = x1.heap.size + 1 := by simp
  have y2 : Below x1.heap.size x1 (x1.alloc (.cells #[.slice none 0 0] 31)) := bel_alloc _ _
  generalize x1.alloc (.cells #[.slice none 0 0] 31) = x2 at q2 e2 y2 ⊢
  have q3 := Boxed.new x2 30 (.slice B nw cw)
  have e3 : (x2.alloc (.cells #[.slice B nw cw] 30)).heap.size = x2.heap.size + 1 := by simp
  have y3 : Below x2.heap.size x2 (x2.alloc (.cells #[.slice B nw cw] 30)) := bel_alloc _ _
  generalize x2.alloc (.cells #[.slice B nw cw] 30) = x3 at q3 e3 y3 ⊢
  have q4 := Boxed.new x3 3 (.int .i64 (nc : Int))
  have e4 : (x3.alloc (.cells #[.int .i64 (nc : Int)] 3)).heap.size = x3.heap.size + 1 := by simp
  have y4 : Below x3.heap.size x3 (x3.alloc (.cells #[.int .i64 (nc : Int)] 3)) := bel_alloc _ _
  generalize x3.alloc (.cells #[.int .i64 (nc : Int)] 3) = W7 at q4 e4 y4 ⊢
  rw [e1] at q2
  rw [e2, e1] at q3
  rw [e3, e2, e1] at q4
  have Y7 : Below w6.heap.size w6 W7 := ((y1.trans (y2.mono (by omega))).trans (y3.mono (by omega))).trans (y4.mono (by omega))
  have hz7 : W7.heap.size = w6.heap.size + 1 + 1 + 1 + 1 := by omega
  have h0 := H00.out
  obtain rfl : calls = [] := List.eq_nil_of_length_eq_zero (by rw [HNC.out]; exact h0)
  have hv0 : val (nc : Int) who = [] := by
    unfold val
    rw [List.filter_eq_nil_iff]
    intro x _
    simp
    omega
  have E1 := Lib.hid (show Boxed W7 w5.heap.size 25 _ from (Y7.block _ (by omega)).trans N1.out)
  have E2 := Lib.hid (show Boxed W7 (w5.heap.size + 1) 31 _ from (Y7.block _ (by omega)).trans N2.out)
  have E3 := Lib.hid (show Boxed W7 (w6.heap.size + 1) 31 (.slice none 0 0) from (y4.block _ (by omega)).trans ((y3.block _ (by omega)).trans q2))
  have E4 := Lib.hid (show Boxed W7 (w6.heap.size + 1 + 1) 30 (.slice B nw cw) from (y4.block _ (by omega)).trans q3)
  have E5 := Lib.hid q4
  have YY := Lib.hid (Z5.out.trans ((Y6.out.trans (Y7.mono (by omega))).mono hws5))
  have RM7 := Lib.hid (RM5.out.below (Y6.out.trans (Y7.mono (by omega))))
  have hfold : playI J [] who = startI J [] := by
    have := valI_fold (J := J) (N := nc) who (startI J [])
    rw [hv0] at this
    unfold playI
    simp only [List.length_nil]
    rw [← h0]; exact this.symm
  have HFD := Lib.hid hfold
  have HV0 := Lib.hid hv0
  clear h0 hv0 q1 q2 q3 q4 e1 e2 e3 e4 y1 y2 y3 y4 Y7 N1 N2 Y6 RM4 RM5 BX5 Z5 OS6 BG5 hfold
  refine range_pre2 (n₀ := w.heap.size) (p2 := 14) (gf := 72) (lb := #[.pointer (some ⟨w6.heap.size + 1 + 1, 0, none⟩), .pointer (some ⟨w6.heap.size + 1 + 1 + 1, 0, none⟩)]) (xs := val (nc : Int) who) rfl (enters_of Try.func72 (by kernel_rfl) rfl)
    (fun _ W => Boxed W w5.heap.size 25 (.slice Am (sz 1 1 J 0).toNat cm) ∧ Boxed W (w5.heap.size + 1) 31 (.slice (some ⟨w4.heap.size + 1, 0, none⟩) nc nc) ∧ Boxed W (w6.heap.size + 1) 31 (.slice none 0 0) ∧ Boxed W (w6.heap.size + 1 + 1) 30 (.slice B nw cw) ∧ Boxed W (w6.heap.size + 1 + 1 + 1) 3 (.int .i64 (nc : Int)) ∧ Rd W Am (List.replicate (sz 1 1 J 0).toNat 0) ∧ Below w.heap.size w W)
    YY.out.size ?abide ⟨E1.out, E2.out, E3.out, E4.out, E5.out, RM7.out, YY.out⟩ ?seq ?assign ?body ?done
  case abide =>
    rintro pre W W' ⟨h1, h2, h3, h4, h5, h6, h7⟩ hc
    exact ⟨boxed_cl h1 hc, boxed_cl h2 hc, boxed_cl h3 hc, boxed_cl h4 hc, boxed_cl h5 hc, rd_cl h6 hc, h7.trans hc.low⟩
  case seq =>
    intro l' J' W' hJ' hI' hY' h0'
    refine turns1_in _ l' _ _ nw cw _ B who HNW.out (by omega) J' W' (fun pre W h => ?_) hY' h0'
    obtain ⟨_, _, _, h4, h5, _, h7⟩ := hI' pre W h
    exact ⟨h4, h5, HW.out.below h7⟩
  case assign =>
    intro l' m' x W' K hK
    simp only [List.setIfInBounds_toArray, List.set_cons_succ, List.set_cons_zero] at hK ⊢
    gi_wp2
    exact hK
  case body =>
    rintro l' m' pre x rest W' _ hx
    rw [HV0.out] at hx
    simp at hx
  case done =>
    rintro D' W hD ⟨h1, h2, h3, _, _, h6, h7⟩ hK
    have km := h1.cell
    have ka := h2.cell
    have ko := h3.cell
    have H6 := Lib.hid h6
    have H7 := Lib.hid h7
    have HK2 := Lib.hid hK
    clear h1 h2 h3 h6 h7 hK E1 E2 E3 E4 E5 RM7 YY
    gi_wp2
    gi_region
    all_goals
      gi_wp2
      refine leaves_mark (n₀ := w.heap.size) D' _ HK2.out (by omega) ?_
      intro W2 hc _ _
      have hc2 : Cl w.heap.size W W2 := Cl.trans ⟨(Below.refl _ _).drew, fun _ _ h _ => h⟩ hc
      have hl : (startI J []).m.length = (sz 1 1 J 0).toNat := by simp [startI]
      rw [HFD.out]
      refine ⟨.tuple #[.slice Am (sz 1 1 J 0).toNat cm, .slice none 0 0, .slice (some ⟨w4.heap.size + 1, 0, none⟩) nc nc], by simp [results, Try.results14, go_sem]; try rfl, Am, cm, none, 0, _, nc, by rw [hl, H00.out]; rfl, ?_, ?_, Nat.le_refl _, ?_, H7.out.trans hc2.low⟩
      · exact rd_cl H6.out hc2
      · exact Pr.nil _ _ _
      · exact Pr.nil _ _ _
set_option maxRecDepth 100000 in
set_option maxHeartbeats 8000000 in
theorem play_in1 (n : Nat) (J : Int) (A B : Option Addr) (nc cc nw cw : Nat) (vs : List Value) (calls : List (List Fr)) (who : List Int) (w : World) (hA : Rv w A vs) (hL : Ls w.heap.size w vs calls) (hB : Ri w B who) (hnc : calls.length = nc) (hnw : who.length = nw) (hw5 : nw ≤ 504) (h8 : nc ≤ 8) (hpos : 0 < nc) (hm : may 1 1 J 0 = true) (hu : ∀ l ∈ calls, ∀ f ∈ l, UF f) (h5 : ∀ l ∈ calls, l.length ≤ 500) :
    CallsIn Fence.wide n Try.prog 14 #[.int .i64 J, .slice A nc cc, .slice B nw cw] w (RetPl w (playI J calls who).m (playI J calls who).a (playI J calls who).over) := by
  have HA := Lib.hid hA
  have HL := Lib.hid hL
  have HW := Lib.hid hB
  have HM := Lib.hid hm
  have HU := Lib.hid (And.intro hu h5)
  have HNC := Lib.hid hnc
  have HNW := Lib.hid hnw
  have t1 : decide ((nc : Int) > 8) = false := decide_eq_false (by omega)
  clear hA hL hB hm hu h5 hnc hnw
  refine callsIn_of_wp_marks Try.func14 rfl trivial ?_ rfl
  simp only [Try.ntmps14, List.size_toArray, List.length_cons, List.length_nil, Nat.reduceAdd, Nat.reduceSub, Array.replicate_succ, Array.replicate_zero, List.push_toArray, List.append_toArray, List.nil_append, List.cons_append]
  gi_wp2_with fail
  refine ⟨trivial, (fun h => by cases h), ?_⟩
  refine (callsIn_wide.2 (layout_any J _)).mono ?_
  rintro _ w1 ⟨rfl, z1⟩
  have Z := Lib.hid z1
  have hz1 := z1.size
  clear z1
  gi_wp2_with fail
  refine ⟨trivial, (fun h => by cases h), ?_⟩
  have bx := Bx.mk w1 1 1 J 0 23
  have hb1 : Below w.heap.size w (w1.alloc (.cells #[.int .i64 1, .int .i64 1, .int .i64 J, .int .i64 0] 23)) := Z.out.alloc hz1 _
  refine (callsIn_wide.2 (Tells.of (may_any 1 1 J 0 _) (v' := .bool true) (by rw [HM.out]))).mono ?_
  rintro _ w2 ⟨rfl, z2⟩
  have Z2 := Lib.hid (hb1.trans (z2.mono (by have := hb1.size; omega)))
  have BX2 := Lib.hid (bx.below z2)
  have hz2 := Z2.out.size
  have hz21 : w1.heap.size + 1 ≤ w2.heap.size := by have := z2.size; simpa using this
  clear z2 bx hb1
  obtain ⟨_, b0, b1, b2, b3⟩ := BX2.out
  gi_wp2_with fail
  refine ⟨trivial, (fun h => by cases h), ?_⟩
  refine (callsIn_wide.2 (new_any 1 1 J 0 _)).mono ?_
  rintro _ w3 ⟨Am, cm, rfl, rm, z3⟩
  have Z3 := Lib.hid (Z2.out.trans (z3.mono hz2))
  have BX3 := Lib.hid (BX2.out.below z3)
  have RM3 := Lib.hid rm
  have hz3 := z3.size
  clear z3 rm b0 b1 b2 b3 BX2 Z2
  gi_wp2_with fail
  refine ⟨trivial, (fun h => by cases h), ?_⟩
  refine (callsIn_wide.2 (nocall_any _)).mono ?_
  rintro _ w4 ⟨rfl, z4⟩
  have Z4 := Lib.hid (Z3.out.trans (z4.mono (by omega)))
  have BX4 := Lib.hid (BX3.out.below z4)
  have RM4 := Lib.hid (RM3.out.below z4)
  have hz4 := z4.size
  clear z4 BX3 RM3 Z3
  gi_wp2_with fail
  refine ⟨trivial, (fun h => by cases h), ?_⟩
  have bel4 : Below w4.heap.size w4 (w4.alloc (.cells #[.int .i64 (-1), .int .i64 0, .int .i64 0, .int .u64 0, .int .u64 0, .int .u64 0, .int .i64 0] 28)) := (Below.refl _ _).alloc (Nat.le_refl _) _
  have hRep := repeat_le w4.heap.size nc fno (w4.alloc (.cells #[.int .i64 (-1), .int .i64 0, .int .i64 0, .int .u64 0, .int .u64 0, .int .u64 0, .int .i64 0] 28)) (by omega) (by simp) (pc_new w4 fno)
  refine (callsIn_wide.2 hRep).mono ?_
  rintro _ w5 ⟨rfl, bg5, z5⟩
  have Z5 := Lib.hid (Z4.out.trans (bel4.mono (by omega)) |>.trans (z5.mono (by simp; omega)))
  have BX5 := Lib.hid ((BX4.out.below bel4).below z5)
  have RM5 := Lib.hid ((RM4.out.below bel4).below z5)
  have hz5 : w4.heap.size + 1 ≤ w5.heap.size := by have := z5.size; simpa using this
  have BG5 := Lib.hid bg5
  clear z5 bg5 BX4 Z4 hRep bel4
  gi_wp2_with fail
  refine ⟨trivial, (fun h => by cases h), ?_⟩
  have n1 := Boxed.new w5 25 (.slice Am (sz 1 1 J 0).toNat cm)
  have n2 := Boxed.new (w5.alloc (.cells #[.slice Am (sz 1 1 J 0).toNat cm] 25)) 31 (.slice (some ⟨w4.heap.size + 1, 0, none⟩) nc nc)
  rw [World.size_alloc] at n2
  have n1' := n1.alloc (.cells #[.slice (some ⟨w4.heap.size + 1, 0, none⟩) nc nc] 31)
  have y0 : Below w5.heap.size w5 ((w5.alloc (.cells #[.slice Am (sz 1 1 J 0).toNat cm] 25)).alloc (.cells #[.slice (some ⟨w4.heap.size + 1, 0, none⟩) nc nc] 31)) := ((Below.refl _ _).alloc (Nat.le_refl _) _).alloc (by simp) _
  have hy0 : ((w5.alloc (.cells #[.slice Am (sz 1 1 J 0).toNat cm] 25)).alloc (.cells #[.slice (some ⟨w4.heap.size + 1, 0, none⟩) nc nc] 31)).heap.size = w5.heap.size + 2 := by simp
  generalize (w5.alloc (.cells #[.slice Am (sz 1 1 J 0).toNat cm] 25)).alloc (.cells #[.slice (some ⟨w4.heap.size + 1, 0, none⟩) nc nc] 31) = v5 at n1' n2 y0 hy0 ⊢
  have hws5 := Z5.out.size
  refine (callsIn_wide.2 (clones_any A nc cc vs v5 (HA.out.below (Z5.out.trans (y0.mono hws5))) HL.out.sli (HL.out.len.trans HNC.out) (by omega))).mono ?_
  rintro _ w6 ⟨Al, cl, rfl, os6, z6⟩
  have hz6 := z6.size
  have N1 := Lib.hid (show Boxed w6 w5.heap.size 25 _ from (z6.block _ (by omega)).trans n1')
  have N2 := Lib.hid (show Boxed w6 (w5.heap.size + 1) 31 _ from (z6.block _ (by omega)).trans n2)
  have Y6 := Lib.hid (y0.trans (z6.mono (by omega)))
  have OS6 := Lib.hid os6
  clear n1 n2 n1' y0 z6 os6
  gi_wp2_with (refine ⟨trivial, (fun h => by cases h), ?_⟩; gi_at_call 38; refine (turns_in _ _ _ _ _ _).mono ?_; rintro e w' ⟨rfl, rfl⟩)
  have q1 := Boxed.new w6 29 (.slice Al nc cl)
  have e1 : (w6.alloc (.cells #[.slice Al nc cl] 29)).heap.size = w6.heap.size + 1 := by simp
  have y1 : Below w6.heap.size w6 (w6.alloc (.cells #[.slice Al nc cl] 29)) := bel_alloc _ _
  generalize w6.alloc (.cells #[.slice Al nc cl] 29) = x1 at q1 e1 y1 ⊢
  have q2 := Boxed.new x1 31 (.slice none 0 0)
  have e2 : (x1.alloc (.cells #[.slice none 0 0] 31)).heap.size = x1.heap.size + 1 := by simp
  have y2 : Below x1.heap.size x1 (x1.alloc (.cells #[.slice none 0 0] 31)) := bel_alloc _ _
  generalize x1.alloc (.cells #[.slice none 0 0] 31) = x2 at q2 e2 y2 ⊢
  have q3 := Boxed.new x2 30 (.slice B nw cw)
  have e3 : (x2.alloc (.cells #[.slice B nw cw] 30)).heap.size = x2.heap.size + 1 := by simp
  have y3 : Below x2.heap.size x2 (x2.alloc (.cells #[.slice B nw cw] 30)) := bel_alloc _ _
  generalize x2.alloc (.cells #[.slice B nw cw] 30) = x3 at q3 e3 y3 ⊢
  have q4 := Boxed.new x3 3 (.int .i64 (nc : Int))
  have e4 : (x3.alloc (.cells #[.int .i64 (nc : Int)] 3)).heap.size = x3.heap.size + 1 := by simp
  have y4 : Below x3.heap.size x3 (x3.alloc (.cells #[.int .i64 (nc : Int)] 3)) := bel_alloc _ _
  generalize x3.alloc (.cells #[.int .i64 (nc : Int)] 3) = W7 at q4 e4 y4 ⊢
  rw [e1] at q2
  rw [e2, e1] at q3
  rw [e3, e2, e1] at q4
  have Y7 : Below w6.heap.size w6 W7 := ((y1.trans (y2.mono (by omega))).trans (y3.mono (by omega))).trans (y4.mono (by omega))
  have hz7 : W7.heap.size = w6.heap.size + 1 + 1 + 1 + 1 := by omega
  obtain ⟨gl, rfl, hgl5, hgl6, _⟩ := OS6.out.at hpos
  have hmpos : 0 < (sz 1 1 J 0).toNat := by
    have h1 := may_lim HM.out
    have h2 : sz 1 1 J 0 = bg 1 J 1 := by unfold sz; rw [HM.out]; rfl
    have h4 := bg_ge (D := 1) (J := J) (w := 1) (by omega) h1.2.2.1.1 (by omega)
    omega
  have hlt5 : w4.heap.size + 1 < w5.heap.size := by have := BG5.out.lt; rw [World.size_alloc] at this; exact this
  have ho : OB w.heap.size w1.heap.size (w4.heap.size + 1) w5.heap.size (w5.heap.size + 1) gl w6.heap.size (w6.heap.size + 1) (w6.heap.size + 1 + 1) (w6.heap.size + 1 + 1 + 1) W7.heap.size :=
    ⟨hz1, by omega, by omega, by omega, by omega, by omega, by omega, by omega, by omega, by omega⟩
  have p0 : PB w J nc w1.heap.size (w4.heap.size + 1) w5.heap.size (w5.heap.size + 1) gl w6.heap.size (w6.heap.size + 1) (w6.heap.size + 1 + 1) (w6.heap.size + 1 + 1 + 1) W7.heap.size (.slice B nw cw) (.int .i64 (nc : Int)) (startI J calls).m (startI J calls).a (startI J calls).over (startI J calls).left W7 := by
    have hl : (startI J calls).m.length = (sz 1 1 J 0).toNat := by simp [startI]
    have Y57 := Y6.out.trans (Y7.mono (by omega))
    refine ⟨BX5.out.below Y57, (Y7.block _ (by omega)).trans N2.out, ?_, ⟨some ⟨gl, 0, none⟩, cl, (y4.block _ (by omega)).trans ((y3.block _ (by omega)).trans ((y2.block _ (by omega)).trans q1)), fun g e => by cases e; rfl, vs, ?_, ?_⟩, ⟨Am, cm, none, 0, ?_, ?_, (y4.block _ (by omega)).trans ((y3.block _ (by omega)).trans q2), Ow.nil _ _, by simp [Value.ownBlock]⟩, (y4.block _ (by omega)).trans q3, q4, Z5.out.trans (Y57.mono hws5), Nat.le_refl _⟩
    · have bg := BG5.out
      rw [World.size_alloc] at bg
      have := (bg.ow (base := w4.heap.size + 1) (Nat.le_refl _) (n := nc) (by simp) (by omega)).below Y57
      simpa [startI, HNC.out] using this
    · obtain ⟨e1, e2⟩ := OS6.out
      rcases e2 with ⟨e2, _⟩ | ⟨g, cap, cur, hv, hbg, hg, hr⟩
      · cases e2
      · injection hv with hA _ hc
        cases hA
        subst hc
        exact ⟨e1, .inr ⟨_, _, cur, rfl, Nat.le_refl _, (Y7.block _ (by omega)).trans hg, hr⟩⟩
    · simp only [startI]
      exact HL.out.below (Z5.out.trans (Y57.mono hws5))
    · rw [hl]
      exact (Y7.block _ (by omega)).trans N1.out
    · intro hp
      obtain ⟨ad, e1, e2, e3⟩ := RM4.out (by simp [startI] at hp; simpa using hp)
      obtain ⟨ad', e1', e2', e3'⟩ := RM5.out (by simp [startI] at hp; simpa using hp)
      rw [e1] at e1'; cases e1'
      exact ⟨ad, e1, .inl (by omega), by omega, fun j u hu => (Y57.cell (p := ad.add j) (by rw [block_add]; exact e2')).trans (e3' j u (by simpa [startI] using hu))⟩
  have P0 := Lib.hid p0
  have V0 := Lib.hid (show PV J nc 0 (startI J calls) from HNC.out ▸ PV.start HU.out.1 HU.out.2)
  clear p0 q1 q2 q3 q4 e1 e2 e3 e4 y1 y2 y3 y4 Y7 N1 N2 Y6 RM4 RM5 BX5 Z5 OS6 BG5 hz1 hz2 hz21 hz3 hz4 hz5 hy0 hws5 hz6 hz7 hgl5 hgl6 hlt5 Z HA
  generalize w6.heap.size + 1 + 1 + 1 = bn at ho P0 ⊢
  generalize w6.heap.size + 1 + 1 = bw at ho P0 ⊢
  generalize w6.heap.size + 1 = bo at ho P0 ⊢
  generalize w6.heap.size = bl at ho P0 ⊢
  generalize w5.heap.size + 1 = ba at ho P0 ⊢
  generalize w5.heap.size = bm at ho P0 ⊢
  generalize w4.heap.size + 1 = ga at ho P0 ⊢
  generalize w1.heap.size = bc at ho P0 ⊢
  generalize hzz : W7.heap.size = z at ho P0 ⊢
  have hzw : w.heap.size ≤ W7.heap.size := P0.out.be.size
  refine range_pre2 (n₀ := w.heap.size) (p2 := 14) (gf := 72) (lb := #[.pointer (some ⟨bw, 0, none⟩), .pointer (some ⟨bn, 0, none⟩)]) (xs := val (nc : Int) who) rfl (enters_of Try.func72 (by kernel_rfl) rfl)
    (fun pre W => PB w J nc bc ga bm ba gl bl bo bw bn z (.slice B nw cw) (.int .i64 (nc : Int)) (pre.foldl (playI1 J nc) (startI J calls)).m (pre.foldl (playI1 J nc) (startI J calls)).a (pre.foldl (playI1 J nc) (startI J calls)).over (pre.foldl (playI1 J nc) (startI J calls)).left W ∧ PV J nc pre.length (pre.foldl (playI1 J nc) (startI J calls)))
    hzw ?abide ⟨P0.out, V0.out⟩ ?seq ?assign ?body ?done
  case abide =>
    rintro pre W W' ⟨h1, h2⟩ hc
    exact ⟨h1.cl hc, h2⟩
  case seq =>
    intro l' J' W' hJ' hI' hY' h0'
    refine turns1_in _ l' _ _ nw cw _ B who HNW.out (by omega) J' W' (fun pre W h => ?_) hY' h0'
    obtain ⟨h1, _⟩ := hI' pre W h
    exact ⟨h1.tw, h1.tn, HW.out.below h1.be⟩
  case assign =>
    intro l' m' x W' K hK
    simp only [List.setIfInBounds_toArray, List.set_cons_succ, List.set_cons_zero] at hK ⊢
    gi_wp2
    exact hK
  case body =>
    rintro l' m' pre x rest W' ⟨h1, h4⟩ hx
    simp only [List.setIfInBounds_toArray, List.set_cons_succ, List.set_cons_zero]
    have hxm : x ∈ val (nc : Int) who := by rw [hx]; simp
    have hxr : 0 ≤ x ∧ x < (nc : Int) := by unfold val at hxm; simpa using (List.mem_filter.1 hxm).2
    obtain ⟨i, rfl⟩ := Int.eq_ofNat_of_zero_le hxr.1
    have hi : i < nc := by omega
    have hk : pre.length < 504 := by
      have := congrArg List.length hx
      have h5 : (val (nc : Int) who).length ≤ who.length := List.length_filter_le _ _
      rw [HNW.out] at h5
      simp at this
      omega
    clear hx hxm hxr
    have HS := Lib.hid (show ∃ s, pre.foldl (playI1 J nc) (startI J calls) = s from ⟨_, rfl⟩)
    obtain ⟨s, hs⟩ := HS.out
    rw [hs] at h1 h4
    obtain ⟨k, hkk⟩ : ∃ k, pre.length = k := ⟨_, rfl⟩
    rw [hkk] at h4 hk
    have HPS := Lib.hid hs
    have HPK := Lib.hid hkk
    clear HS hs hkk
    -- how the round ends
    have FIN := Lib.hid (show ∀ X : World, KeepsOthers W' X → PB w J nc bc ga bm ba gl bl bo bw bn z (.slice B nw cw) (.int .i64 (nc : Int)) (stepI J (begI s i) i).m (stepI J (begI s i) i).a (stepI J (begI s i) i).over (stepI J (begI s i) i).left X → (PB w J nc bc ga bm ba gl bl bo bw bn z (.slice B nw cw) (.int .i64 (nc : Int)) ((pre ++ [(i : Int)]).foldl (playI1 J nc) (startI J calls)).m ((pre ++ [(i : Int)]).foldl (playI1 J nc) (startI J calls)).a ((pre ++ [(i : Int)]).foldl (playI1 J nc) (startI J calls)).over ((pre ++ [(i : Int)]).foldl (playI1 J nc) (startI J calls)).left X ∧ PV J nc (pre ++ [(i : Int)]).length ((pre ++ [(i : Int)]).foldl (playI1 J nc) (startI J calls))) ∧ KeepsOthers W' X from fun X hX hP => by
      rw [List.foldl_append, HPS.out, List.foldl_cons, List.foldl_nil, List.length_append, HPK.out]
      have e : playI1 J nc s (i : Int) = stepI J (begI s i) i := by unfold playI1; rw [if_pos ⟨by omega, by omega⟩, Int.toNat_natCast]
      rw [e]
      exact ⟨⟨hP, (h4.beg i).step i⟩, hX⟩)
    have HV := Lib.hid (h4.beg i)
    have hl : i < s.a.length := by rw [h4.al]; exact hi
    have hll : i < s.left.length := by rw [h4.ll]; exact hi
    have hul := Lib.hid (And.intro h4.ul h4.l5)
    have hzW : z ≤ W'.heap.size := h1.zs
    have P1 := Lib.hid h1
    have HLN := Lib.hid h4.ll
    have c7 := h1.ar.c7 hi
    have ka := h1.ab.cell
    have HO := Lib.hid ho
    obtain ⟨o1, o2, o3, o4, o5, o6, o7, o8, o9, oz⟩ := ho
    have K1 := Lib.hid (show KeepsOthers W' W' from ⟨Nat.le_refl _, fun _ _ h _ => h⟩)
    obtain ⟨f0, hf0⟩ : ∃ f, s.a.getD i fno = f := ⟨_, rfl⟩
    rw [hf0] at c7
    have HF0 := Lib.hid hf0
    clear hf0 h1 h4 o1
    obtain ⟨o, p, q', v, xx, y, s'⟩ := f0
    obtain ⟨a0, a1, a2, a3, a4, a5, a6⟩ := c7
    simp only at a0 a1 a2 a3 a4 a5 a6
    by_cases hop : o = -1
    · obtain rfl : o = -1 := hop

      have e1 : ((-1 : Int) == -1) = true := rfl
      obtain ⟨cl, Ai, ci, kb, kl, hci, hpr, hlw, fl⟩ := P1.out.leftAt hi HLN.out
      have hl5 : (s.left.getD i []).length ≤ 500 := hul.out.2 _ (getD_memL hll)
      obtain ⟨LL, hLL⟩ : ∃ LL, s.left.getD i [] = LL := ⟨_, rfl⟩
      rw [hLL] at kl hci hpr hl5
      have HLS := Lib.hid hLL
      obtain ⟨L, hLen⟩ : ∃ L, LL.length = L := ⟨_, rfl⟩
      rw [hLen] at kl hci hl5
      have HLL := Lib.hid hLen
      have HPR := Lib.hid hpr
      have AR := Lib.hid P1.out.ar
      have hgw : ga < W'.heap.size := by omega
      have hww : w.heap.size ≤ W'.drew.heap.size := P1.out.be.size
      clear hpr hLL hLen
      obtain ⟨f1, l1, hx⟩ : ∃ f1 l1, nxtI (i : Int) LL = (f1, l1) := ⟨_, _, rfl⟩
      have hgo := fun (w' : World) (hp : Pr w.heap.size w' Ai LL) (hw : w.heap.size ≤ w'.heap.size) => next_any (i : Int) Ai L ci LL w.heap.size w' hp hw HLL.out hci hl5
      rw [hx] at hgo
      have HGO := Lib.hid hgo
      have hbeg : begI s i = ⟨s.m, s.a.set i f1, s.over, s.left.set i l1⟩ := by
        unfold begI
        rw [if_pos (by rw [HF0.out]), HLS.out, hx]
      have HBG := Lib.hid hbeg
      clear hgo hx hbeg
      have HK := Lib.hid (show ∀ x', Ke [ga, gl] z W' x' → (fun w' => w'.cell? ⟨ba, 0, none⟩ = some (.slice (some ⟨ga, 0, none⟩) nc nc) ∧ w'.cell? ⟨bl, 0, none⟩ = some (.slice (some ⟨gl, 0, none⟩) nc cl) ∧ Ke [ga, gl] z W' w') x' from fun x' hx => by
        have e1 := hx.same ba (by omega) (by simp; omega)
        have e2 := hx.same bl (by omega) (by simp; omega)
        exact ⟨(World.cell?_of_block (a := ⟨ba, 0, none⟩) e1).trans ka, (World.cell?_of_block (a := ⟨bl, 0, none⟩) e2).trans kb, hx⟩)
      have hHeld0 := HK.out _ (Ke.refl _ _ _)
      gi_wp2
      refine wpIn_region_held_round (S := fun w' => w'.cell? ⟨ba, 0, none⟩ = some (.slice (some ⟨ga, 0, none⟩) nc nc) ∧ w'.cell? ⟨bl, 0, none⟩ = some (.slice (some ⟨gl, 0, none⟩) nc cl) ∧ Ke [ga, gl] z W' w') (by kernel_rfl) (no_defer (by kernel_rfl)) (by rintro ⟨_, _, h⟩; exact h) (ke_drew HK.out (fun _ h => h.2.2) hHeld0) (fun hHeld => ?_)
      refine wpAnyH_take (i := 0) (oi := { dst := some 46, op := Go.Op.load 31 (Go.Operand.tmp 11), type := 31, pos := "inject.go:48", after := #[], guard := none }) (v := ?vrb1) rfl (by kernel_rfl) (by kernel_rfl) (by kernel_rfl) (fun _ _ _ h => h) (Or.inl ⟨by rfl, ?yrb1⟩) (by assumption) ?rrb1
      case yrb1 => (intro w hSw; (try dsimp only at hSw); go_simp; (try with_reducible rfl))
      (try simp only [Act.put, List.setIfInBounds_toArray, List.set_cons_zero, List.set_cons_succ])
      refine wpAnyH_take (i := 1) (oi := { dst := some 47, op := Go.Op.move (Go.Operand.tmp 14), type := 3, pos := "inject.go:48", after := #[], guard := none }) (v := ?vrb2) rfl (by kernel_rfl) (by kernel_rfl) (by kernel_rfl) (fun _ _ _ h => h) (Or.inl ⟨by rfl, ?yrb2⟩) (by assumption) ?rrb2
      case yrb2 => (intro w hSw; (try dsimp only at hSw); go_simp; (try with_reducible rfl))
      (try simp only [Act.put, List.setIfInBounds_toArray, List.set_cons_zero, List.set_cons_succ])
      refine wpAnyH_take (i := 2) (oi := { dst := some 48, op := Go.Op.load 29 (Go.Operand.tmp 12), type := 29, pos := "inject.go:48", after := #[{ on := 14, ground := Go.Ground.gcOnly Go.Departure.lateStores }], guard := none }) (v := ?vrb3) rfl (by kernel_rfl) (by kernel_rfl) (by kernel_rfl) (fun _ _ _ h => h) (Or.inl ⟨by rfl, ?yrb3⟩) (by assumption) ?rrb3
      case yrb3 => (intro w hSw; (try dsimp only at hSw); go_simp; (try with_reducible rfl))
      (try simp only [Act.put, List.setIfInBounds_toArray, List.set_cons_zero, List.set_cons_succ])
      refine wpAnyH_take (i := 3) (oi := { dst := some 49, op := Go.Op.move (Go.Operand.tmp 14), type := 3, pos := "inject.go:48", after := #[{ on := 14, ground := Go.Ground.gcOnly Go.Departure.lateStores }], guard := none }) (v := ?vrb4) rfl (by kernel_rfl) (by kernel_rfl) (by kernel_rfl) (fun _ _ _ h => h) (Or.inl ⟨by rfl, ?yrb4⟩) (by assumption) ?rrb4
      case yrb4 => (intro w hSw; (try dsimp only at hSw); go_simp; (try with_reducible rfl))
      (try simp only [Act.put, List.setIfInBounds_toArray, List.set_cons_zero, List.set_cons_succ])
      refine wpAnyH_take (i := 4) (oi := { dst := some 50, op := Go.Op.move (Go.Operand.tmp 14), type := 3, pos := "inject.go:48", after := #[], guard := none }) (v := ?vrb5) rfl (by kernel_rfl) (by kernel_rfl) (by kernel_rfl) (fun _ _ _ h => h) (Or.inl ⟨by rfl, ?yrb5⟩) (by assumption) ?rrb5
      case yrb5 => (intro w hSw; (try dsimp only at hSw); go_simp; (try with_reducible rfl))
      (try simp only [Act.put, List.setIfInBounds_toArray, List.set_cons_zero, List.set_cons_succ])
      refine wpAnyH_take (i := 5) (oi := { dst := some 51, op := Go.Op.load 29 (Go.Operand.tmp 12), type := 29, pos := "inject.go:48", after := #[], guard := none }) (v := ?vrb6) rfl (by kernel_rfl) (by kernel_rfl) (by kernel_rfl) (fun _ _ _ h => h) (Or.inl ⟨by rfl, ?yrb6⟩) (by assumption) ?rrb6
      case yrb6 => (intro w hSw; (try dsimp only at hSw); go_simp; (try with_reducible rfl))
      (try simp only [Act.put, List.setIfInBounds_toArray, List.set_cons_zero, List.set_cons_succ])
      refine wpAnyH_take (i := 6) (oi := { dst := some 52, op := Go.Op.move (Go.Operand.tmp 14), type := 3, pos := "inject.go:48", after := #[], guard := none }) (v := ?vrb7) rfl (by kernel_rfl) (by kernel_rfl) (by kernel_rfl) (fun _ _ _ h => h) (Or.inl ⟨by rfl, ?yrb7⟩) (by assumption) ?rrb7
      case yrb7 => (intro w hSw; (try dsimp only at hSw); go_simp; (try with_reducible rfl))
      (try simp only [Act.put, List.setIfInBounds_toArray, List.set_cons_zero, List.set_cons_succ])
      refine wpAnyH_take (i := 7) (oi := { dst := some 53, op := Go.Op.indexAddr 29 (Go.Operand.tmp 51) (Go.Operand.tmp 52), type := 0, pos := "inject.go:48", after := #[{ on := 5, ground := Go.Ground.data }, { on := 6, ground := Go.Ground.data }], guard := none }) (v := ?vrb8) rfl (by kernel_rfl) (by kernel_rfl) (by kernel_rfl) (fun _ _ _ h => h) (Or.inl ⟨by rfl, ?yrb8⟩) (by assumption) ?rrb8
      case yrb8 => (intro w hSw; (try dsimp only at hSw); go_simp; (try with_reducible rfl))
      (try simp only [Act.put, List.setIfInBounds_toArray, List.set_cons_zero, List.set_cons_succ])
      refine wpAnyH_ready (rs := [8]) (by kernel_rfl) (by simp) ?_
      refine (AllReadyH.cons (o := { dst := some 54, op := Go.Op.load 31 (Go.Operand.tmp 53), type := 31, pos := "inject.go:48", after := #[{ on := 7, ground := Go.Ground.data }], guard := none }) rfl (fun K hK => ?_) AllReadyH.nil)
      go_simp
      refine hK.out _ _ (hHeld) (fun hHeld2 => ?_)
      clear hK K hHeld
      have hHeld := hHeld2
      clear hHeld2
      (try simp only [Act.put, List.setIfInBounds_toArray, List.set_cons_zero, List.set_cons_succ])
      refine wpAnyH_ready (rs := [9]) (by kernel_rfl) (by simp) ?_
      refine (AllReadyH.cons (o := { dst := some 55, op := Go.Op.call { callee := Go.Callee.value (Go.Operand.func 39), args := #[Go.Operand.tmp 50, Go.Operand.tmp 54], argTypes := #[3, 31] }, type := 68, pos := "inject.go:48", after := #[{ on := 4, ground := Go.Ground.data }, { on := 8, ground := Go.Ground.data }], guard := none }) rfl (fun K hK => ?_) AllReadyH.nil)
      go_simp
      refine (HGO.out _ (HPR.out.below (Below.refl _ _).drew) hww).mono ?_
      rintro e u2 ⟨A2, c2, rfl, hc2, hp2, z2⟩
      go_wp2_with fail
      have z2w : Below W'.heap.size W' u2 := (Below.refl _ _).drew.trans z2
      have Z2W := Lib.hid z2w
      have HP2 := Lib.hid hp2
      have HC2 := Lib.hid hc2
      have ar2 := AR.out.below z2w
      obtain ⟨r0, r1, r2, r3, r4, r5, r6⟩ := ar2.c7 hi
      have fr := ar2.free
      have lg2 := Nat.lt_of_lt_of_le hgw z2w.size
      have kl2 := (z2w.cell (p := ⟨gl, i, none⟩) hlw).trans kl
      have lgl := Nat.lt_of_lt_of_le hlw z2w.size
      have fl2 : u2.frozen? ⟨gl, i, none⟩ = false := (frozen_below z2w hlw).trans (fl i)
      clear ar2 z2w hp2 hc2
      refine hK.out _ _ (ke_call HK.out (fun _ h => h.2.2) hzW z2 hHeld) (fun hHeld2 => ?_)
      clear hK K hHeld
      have hHeld := hHeld2
      clear hHeld2
      (try simp only [Act.put, List.setIfInBounds_toArray, List.set_cons_zero, List.set_cons_succ])
      refine wpAnyH_take (i := 10) (oi := { dst := some 45, op := Go.Op.move (Go.Operand.tmp 55), type := 68, pos := "inject.go:48", after := #[{ on := 9, ground := Go.Ground.data }], guard := none }) (v := ?vrb9) rfl (by kernel_rfl) (by kernel_rfl) (by kernel_rfl) (fun _ _ _ h => h) (Or.inl ⟨by rfl, ?yrb9⟩) (by assumption) ?rrb9
      case yrb9 => (intro w hSw; (try dsimp only at hSw); go_simp; (try with_reducible rfl))
      (try simp only [Act.put, List.setIfInBounds_toArray, List.set_cons_zero, List.set_cons_succ])
      refine wpAnyH_take (i := 11) (oi := { dst := some 56, op := Go.Op.extract (Go.Operand.tmp 45) 0, type := 28, pos := "inject.go:48", after := #[{ on := 10, ground := Go.Ground.data }], guard := none }) (v := ?vrb10) rfl (by kernel_rfl) (by kernel_rfl) (by kernel_rfl) (fun _ _ _ h => h) (Or.inl ⟨by rfl, ?yrb10⟩) (by assumption) ?rrb10
      case yrb10 => (intro w hSw; (try dsimp only at hSw); go_simp; (try with_reducible rfl))
      (try simp only [Act.put, List.setIfInBounds_toArray, List.set_cons_zero, List.set_cons_succ])
      refine wpAnyH_take (i := 12) (oi := { dst := some 57, op := Go.Op.extract (Go.Operand.tmp 45) 1, type := 31, pos := "inject.go:48", after := #[{ on := 10, ground := Go.Ground.data }, { on := 14, ground := Go.Ground.gcOnly Go.Departure.lateStores }], guard := none }) (v := ?vrb11) rfl (by kernel_rfl) (by kernel_rfl) (by kernel_rfl) (fun _ _ _ h => h) (Or.inl ⟨by rfl, ?yrb11⟩) (by assumption) ?rrb11
      case yrb11 => (intro w hSw; (try dsimp only at hSw); go_simp; (try with_reducible rfl))
      (try simp only [Act.put, List.setIfInBounds_toArray, List.set_cons_zero, List.set_cons_succ])
      refine wpAnyH_take (i := 13) (oi := { dst := some 58, op := Go.Op.indexAddr 31 (Go.Operand.tmp 46) (Go.Operand.tmp 47), type := 0, pos := "inject.go:48", after := #[{ on := 0, ground := Go.Ground.data }, { on := 1, ground := Go.Ground.data }, { on := 0, ground := Go.Ground.phase }, { on := 1, ground := Go.Ground.phase }, { on := 2, ground := Go.Ground.textOnly Go.Departure.lateStores }, { on := 3, ground := Go.Ground.textOnly Go.Departure.lateStores }, { on := 4, ground := Go.Ground.phase }, { on := 5, ground := Go.Ground.phase }, { on := 6, ground := Go.Ground.phase }, { on := 7, ground := Go.Ground.phase }, { on := 8, ground := Go.Ground.phase }, { on := 9, ground := Go.Ground.phase }, { on := 10, ground := Go.Ground.phase }, { on := 11, ground := Go.Ground.phase }, { on := 12, ground := Go.Ground.textOnly Go.Departure.lateStores }], guard := none }) (v := ?vrb12) rfl (by kernel_rfl) (by kernel_rfl) (by kernel_rfl) (fun _ _ _ h => h) (Or.inl ⟨by rfl, ?yrb12⟩) (by assumption) ?rrb12
      case yrb12 => (intro w hSw; (try dsimp only at hSw); go_simp; (try with_reducible rfl))
      (try simp only [Act.put, List.setIfInBounds_toArray, List.set_cons_zero, List.set_cons_succ])
      refine wpAnyH_ready (rs := [14]) (by kernel_rfl) (by simp) ?_
      refine (AllReadyH.cons (o := { dst := none, op := Go.Op.store 28 (Go.Operand.tmp 58) (Go.Operand.tmp 56), type := 0, pos := "inject.go:48", after := #[{ on := 13, ground := Go.Ground.data }, { on := 11, ground := Go.Ground.data }, { on := 9, ground := Go.Ground.chain }, { on := 0, ground := Go.Ground.phase }, { on := 1, ground := Go.Ground.phase }, { on := 2, ground := Go.Ground.textOnly Go.Departure.lateStores }, { on := 3, ground := Go.Ground.textOnly Go.Departure.lateStores }, { on := 4, ground := Go.Ground.phase }, { on := 5, ground := Go.Ground.phase }, { on := 6, ground := Go.Ground.phase }, { on := 7, ground := Go.Ground.phase }, { on := 8, ground := Go.Ground.phase }, { on := 9, ground := Go.Ground.phase }, { on := 10, ground := Go.Ground.phase }, { on := 11, ground := Go.Ground.phase }, { on := 12, ground := Go.Ground.textOnly Go.Departure.lateStores }], guard := none }) rfl (fun K hK => ?_) AllReadyH.nil)
      go_simp
      refine hK.out _ _ (ke_pk7 HK.out (fun _ h => h.2.2) (by simp) _ _ hHeld) (fun hHeld2 => ?_)
      clear hK K hHeld
      have hHeld := hHeld2
      clear hHeld2
      (try simp only [Act.put, List.setIfInBounds_toArray, List.set_cons_zero, List.set_cons_succ])
      refine wpAnyH_take (i := 15) (oi := { dst := some 59, op := Go.Op.indexAddr 29 (Go.Operand.tmp 48) (Go.Operand.tmp 49), type := 0, pos := "inject.go:48", after := #[{ on := 2, ground := Go.Ground.data }, { on := 3, ground := Go.Ground.data }, { on := 0, ground := Go.Ground.phase }, { on := 1, ground := Go.Ground.phase }, { on := 2, ground := Go.Ground.phase }, { on := 3, ground := Go.Ground.phase }, { on := 4, ground := Go.Ground.phase }, { on := 5, ground := Go.Ground.phase }, { on := 6, ground := Go.Ground.phase }, { on := 7, ground := Go.Ground.phase }, { on := 8, ground := Go.Ground.phase }, { on := 9, ground := Go.Ground.phase }, { on := 10, ground := Go.Ground.phase }, { on := 11, ground := Go.Ground.phase }, { on := 12, ground := Go.Ground.phase }, { on := 13, ground := Go.Ground.phase }, { on := 14, ground := Go.Ground.phase }], guard := none }) (v := ?vrb13) rfl (by kernel_rfl) (by kernel_rfl) (by kernel_rfl) (fun _ _ _ h => h) (Or.inl ⟨by rfl, ?yrb13⟩) (by assumption) ?rrb13
      case yrb13 => (intro w hSw; (try dsimp only at hSw); go_simp; (try with_reducible rfl))
      (try simp only [Act.put, List.setIfInBounds_toArray, List.set_cons_zero, List.set_cons_succ])
      refine wpAnyH_ready (rs := [16]) (by kernel_rfl) (by simp) ?_
      refine (AllReadyH.cons (o := { dst := none, op := Go.Op.store 31 (Go.Operand.tmp 59) (Go.Operand.tmp 57), type := 0, pos := "inject.go:48", after := #[{ on := 15, ground := Go.Ground.data }, { on := 12, ground := Go.Ground.data }, { on := 14, ground := Go.Ground.chain }, { on := 0, ground := Go.Ground.phase }, { on := 1, ground := Go.Ground.phase }, { on := 2, ground := Go.Ground.phase }, { on := 3, ground := Go.Ground.phase }, { on := 4, ground := Go.Ground.phase }, { on := 5, ground := Go.Ground.phase }, { on := 6, ground := Go.Ground.phase }, { on := 7, ground := Go.Ground.phase }, { on := 8, ground := Go.Ground.phase }, { on := 9, ground := Go.Ground.phase }, { on := 10, ground := Go.Ground.phase }, { on := 11, ground := Go.Ground.phase }, { on := 12, ground := Go.Ground.phase }, { on := 13, ground := Go.Ground.phase }, { on := 14, ground := Go.Ground.phase }], guard := none }) rfl (fun K hK => ?_) AllReadyH.nil)
      go_simp
      refine hK.out _ _ (ke_set HK.out (fun _ h => h.2.2) (by simp) _ _ hHeld) (fun hHeld2 => ?_)
      clear hK K hHeld
      have hHeld := hHeld2
      clear hHeld2
      (try simp only [Act.put, List.setIfInBounds_toArray, List.set_cons_zero, List.set_cons_succ])
      refine wpAnyH_done (by kernel_rfl) ?_ _
      gi_wp2
      change Code.wpIn _ _ _ _ _ _ ((pk7 u2 ga (i * 7) f1).setCell ⟨gl, i, none⟩ (.slice A2 l1.length c2))
      have P := Lib.hid (((P1.out.below Z2W.out).setA HO.out hi f1).setL HO.out hi HC2.out (HP2.out.same fun b hb _ => pk7_other b (by have := HO.out.o1; omega)))
      have K := Lib.hid (((K1.out.trans (keeps_below Z2W.out)).trans (keeps_pk7 u2 ga (i * 7) f1)).trans (KeepsOthers.setCell (pk7 u2 ga (i * 7) f1) ⟨gl, i, none⟩ (.slice A2 l1.length c2)))
      generalize (pk7 u2 ga (i * 7) f1).setCell ⟨gl, i, none⟩ (.slice A2 l1.length c2) = X at P K ⊢
      obtain ⟨t, ht⟩ : ∃ t, begI s i = t := ⟨_, rfl⟩
      have HT := Lib.hid (ht.symm.trans HBG.out)
      have e0 := HT.out
      replace P : Hid (PB w J nc bc ga bm ba gl bl bo bw bn z (.slice B nw cw) (.int .i64 (nc : Int)) t.m t.a t.over t.left X) := Lib.hid (by rw [e0]; exact P.out)
      rw [ht] at FIN HV
      clear e0 ht HT HBG HK hHeld0 hHeld Z2W HP2 HC2 r0 r1 r2 r3 r4 r5 r6 fr lg2 kl2 lgl fl2 z2 AR HPR HGO HLS HLL kb kl hci hl5 hlw fl hgw hww a0 a1 a2 a3 a4 a5 a6 ka P1 K1
      have hzX : z ≤ X.heap.size := P.out.zs
      have hgX : ga < X.heap.size := by omega
      have hmX : bm < X.heap.size := by omega
      have hc7 := P.out.ar.c7 hi
      have ka := P.out.ab.cell
      have AR2 := Lib.hid P.out.ar
      obtain ⟨_, b0, b1, b2, b3⟩ := P.out.cb
      obtain ⟨Am2, cm2, Ao2, co2, k1, k2, _⟩ := P.out.mo
      have RX := Lib.hid k2.rd
      have hml := HV.out.ml
      have hml5 : t.m.length ≤ 500 := by have h1 := sz_lim 1 1 J 0; omega
      have hmp : 0 < t.m.length := by omega
      have hfu := HV.out.uf i
      obtain ⟨f, hf⟩ : ∃ f, t.a.getD i fno = f := ⟨_, rfl⟩
      rw [hf] at hc7 hfu
      obtain ⟨m2, g, hd⟩ : ∃ m2 g, insS 1 1 J 0 t.m f = (m2, g) := ⟨_, _, rfl⟩
      have hl2 : m2.length = t.m.length := by have := insS_len 1 1 J 0 t.m f; rw [hd] at this; exact this
      have HST := Lib.hid (show stepI J t i = if g.res = 0 then ⟨m2, t.a.set i g, t.over, t.left⟩ else ⟨m2, t.a.set i fno, t.over ++ [g], t.left⟩ by
        unfold stepI; rw [hf, hd])
      obtain ⟨km, hkm⟩ : ∃ km, t.m.length = km := ⟨_, rfl⟩
      rw [hkm] at k1 hml5 hl2 hmp
      have KM := Lib.hid k1
      have kmc := k1.cell
      have HGO2 := Lib.hid (show ∀ w' : World, Rd w' Am2 t.m → Calls Try.prog 12 #[cf 1 1 J 0, .slice Am2 km cm2, fv f] w' (RetQ w'.heap.size w' km m2 g) from fun w' hr => istep_n hr hkm hml5 HV.out.um hfu hd)
      have HL2 := Lib.hid hl2
      have HMP := Lib.hid hmp
      have HOV := Lib.hid (show t.over.length ≤ 504 by have := HV.out.ol; omega)
      clear k1 k2 hml hml5 hmp hfu hf hd hl2 hkm
      obtain ⟨o, p, q', v, xx, y, s'⟩ := f
      obtain ⟨a0, a1, a2, a3, a4, a5, a6⟩ := hc7
      simp only at a0 a1 a2 a3 a4 a5 a6
      have HK2 := Lib.hid (show ∀ x', Ke [ga, bm] z X x' → (fun w' => w'.cell? ⟨ba, 0, none⟩ = some (.slice (some ⟨ga, 0, none⟩) nc nc) ∧ w'.cell? ⟨bc, 0, none⟩ = some (.int .i64 1) ∧ w'.cell? ⟨bc, 1, none⟩ = some (.int .i64 1) ∧ w'.cell? ⟨bc, 2, none⟩ = some (.int .i64 J) ∧ w'.cell? ⟨bc, 3, none⟩ = some (.int .i64 0) ∧ Ke [ga, bm] z X w') x' from fun x' hx => by
        have e1 := hx.same ba (by omega) (by simp; omega)
        have e2 := hx.same bc (by omega) (by simp; omega)
        exact ⟨(World.cell?_of_block (a := ⟨ba, 0, none⟩) e1).trans ka, (World.cell?_of_block (a := ⟨bc, 0, none⟩) e2).trans b0, (World.cell?_of_block (a := ⟨bc, 1, none⟩) e2).trans b1, (World.cell?_of_block (a := ⟨bc, 2, none⟩) e2).trans b2, (World.cell?_of_block (a := ⟨bc, 3, none⟩) e2).trans b3, hx⟩)
      have hHeld0 := HK2.out _ (Ke.refl _ _ _)
      clear b0 b1 b2 b3
      refine wpIn_region_held_round (S := fun w' => w'.cell? ⟨ba, 0, none⟩ = some (.slice (some ⟨ga, 0, none⟩) nc nc) ∧ w'.cell? ⟨bc, 0, none⟩ = some (.int .i64 1) ∧ w'.cell? ⟨bc, 1, none⟩ = some (.int .i64 1) ∧ w'.cell? ⟨bc, 2, none⟩ = some (.int .i64 J) ∧ w'.cell? ⟨bc, 3, none⟩ = some (.int .i64 0) ∧ Ke [ga, bm] z X w') (by kernel_rfl) (no_defer (by kernel_rfl)) (by rintro ⟨_, _, h⟩; exact h) (ke_drew HK2.out (fun _ h => h.2.2.2.2.2) hHeld0) (fun hHeld => ?_)
      refine wpAnyH_take (i := 0) (oi := { dst := some 61, op := Go.Op.load 31 (Go.Operand.tmp 11), type := 31, pos := "inject.go:50", after := #[{ on := 12, ground := Go.Ground.gcOnly Go.Departure.lateStores }], guard := none }) (v := ?vrsb1) rfl (by kernel_rfl) (by kernel_rfl) (by kernel_rfl) (fun _ _ _ h => h) (Or.inl ⟨by rfl, ?yrsb1⟩) (by assumption) ?rrsb1
      case yrsb1 => (intro w hSw; (try dsimp only at hSw); go_simp; (try with_reducible rfl))
      (try simp only [Act.put, List.setIfInBounds_toArray, List.set_cons_zero, List.set_cons_succ])
      refine wpAnyH_take (i := 1) (oi := { dst := some 62, op := Go.Op.move (Go.Operand.tmp 14), type := 3, pos := "inject.go:50", after := #[{ on := 12, ground := Go.Ground.gcOnly Go.Departure.lateStores }], guard := none }) (v := ?vrsb2) rfl (by kernel_rfl) (by kernel_rfl) (by kernel_rfl) (fun _ _ _ h => h) (Or.inl ⟨by rfl, ?yrsb2⟩) (by assumption) ?rrsb2
      case yrsb2 => (intro w hSw; (try dsimp only at hSw); go_simp; (try with_reducible rfl))
      (try simp only [Act.put, List.setIfInBounds_toArray, List.set_cons_zero, List.set_cons_succ])
      refine wpAnyH_take (i := 2) (oi := { dst := some 63, op := Go.Op.load 23 (Go.Operand.tmp 9), type := 23, pos := "inject.go:50", after := #[], guard := none }) (v := ?vrsb3) rfl (by kernel_rfl) (by kernel_rfl) (by kernel_rfl) (fun _ _ _ h => h) (Or.inl ⟨by rfl, ?yrsb3⟩) (by assumption) ?rrsb3
      case yrsb3 => (intro w hSw; (try dsimp only at hSw); go_simp; (try with_reducible rfl))
      (try simp only [Act.put, List.setIfInBounds_toArray, List.set_cons_zero, List.set_cons_succ])
      refine wpAnyH_take (i := 4) (oi := { dst := some 65, op := Go.Op.load 31 (Go.Operand.tmp 11), type := 31, pos := "inject.go:50", after := #[], guard := none }) (v := ?vrsb4) rfl (by kernel_rfl) (by kernel_rfl) (by kernel_rfl) (fun _ _ _ h => h) (Or.inl ⟨by rfl, ?yrsb4⟩) (by assumption) ?rrsb4
      case yrsb4 => (intro w hSw; (try dsimp only at hSw); go_simp; (try with_reducible rfl))
      (try simp only [Act.put, List.setIfInBounds_toArray, List.set_cons_zero, List.set_cons_succ])
      refine wpAnyH_take (i := 5) (oi := { dst := some 66, op := Go.Op.move (Go.Operand.tmp 14), type := 3, pos := "inject.go:50", after := #[], guard := none }) (v := ?vrsb5) rfl (by kernel_rfl) (by kernel_rfl) (by kernel_rfl) (fun _ _ _ h => h) (Or.inl ⟨by rfl, ?yrsb5⟩) (by assumption) ?rrsb5
      case yrsb5 => (intro w hSw; (try dsimp only at hSw); go_simp; (try with_reducible rfl))
      (try simp only [Act.put, List.setIfInBounds_toArray, List.set_cons_zero, List.set_cons_succ])
      refine wpAnyH_take (i := 6) (oi := { dst := some 67, op := Go.Op.indexAddr 31 (Go.Operand.tmp 65) (Go.Operand.tmp 66), type := 0, pos := "inject.go:50", after := #[{ on := 4, ground := Go.Ground.data }, { on := 5, ground := Go.Ground.data }], guard := none }) (v := ?vrsb6) rfl (by kernel_rfl) (by kernel_rfl) (by kernel_rfl) (fun _ _ _ h => h) (Or.inl ⟨by rfl, ?yrsb6⟩) (by assumption) ?rrsb6
      case yrsb6 => (intro w hSw; (try dsimp only at hSw); go_simp; (try with_reducible rfl))
      (try simp only [Act.put, List.setIfInBounds_toArray, List.set_cons_zero, List.set_cons_succ])
      refine wpAnyH_ready (rs := [3, 7]) (by kernel_rfl) (by simp) ?_
      refine (AllReadyH.cons (o := { dst := some 64, op := Go.Op.load 25 (Go.Operand.tmp 10), type := 25, pos := "inject.go:50", after := #[], guard := none }) rfl (fun K hK => ?_) (AllReadyH.cons (o := { dst := some 68, op := Go.Op.load 28 (Go.Operand.tmp 67), type := 28, pos := "inject.go:50", after := #[{ on := 6, ground := Go.Ground.data }], guard := none }) rfl (fun K hK => ?_) AllReadyH.nil))
      · go_simp
        refine hK.out _ _ (hHeld) (fun hHeld2 => ?_)
        clear hK K hHeld
        have hHeld := hHeld2
        clear hHeld2
        (try simp only [Act.put, List.setIfInBounds_toArray, List.set_cons_zero, List.set_cons_succ])
        refine wpAnyH_ready (rs := [7]) (by kernel_rfl) (by simp) ?_
        refine (AllReadyH.cons (o := { dst := some 68, op := Go.Op.load 28 (Go.Operand.tmp 67), type := 28, pos := "inject.go:50", after := #[{ on := 6, ground := Go.Ground.data }], guard := none }) rfl (fun K hK => ?_) AllReadyH.nil)
        go_simp
        refine hK.out _ _ (hHeld) (fun hHeld2 => ?_)
        clear hK K hHeld
        have hHeld := hHeld2
        clear hHeld2
        (try simp only [Act.put, List.setIfInBounds_toArray, List.set_cons_zero, List.set_cons_succ])
        refine wpAnyH_ready (rs := [8]) (by kernel_rfl) (by simp) ?_
        refine (AllReadyH.cons (o := { dst := some 69, op := Go.Op.call { callee := Go.Callee.value (Go.Operand.func 12), args := #[Go.Operand.tmp 63, Go.Operand.tmp 64, Go.Operand.tmp 68], argTypes := #[23, 25, 28] }, type := 34, pos := "inject.go:50", after := #[{ on := 2, ground := Go.Ground.data }, { on := 3, ground := Go.Ground.data }, { on := 7, ground := Go.Ground.data }], guard := none }) rfl (fun K hK => ?_) AllReadyH.nil)
        go_simp
        refine (HGO2.out _ (RX.out.below (Below.refl _ _).drew)).mono ?_
        rintro e u3 ⟨A3, c3, rfl, hr3, z3⟩
        go_wp2_with fail
        have z3w : Below X.heap.size X u3 := (Below.refl _ _).drew.trans z3
        have Z3W := Lib.hid z3w
        have HR3 := Lib.hid (show Rn X.heap.size u3 A3 m2 from hr3)
        have ar3 := AR2.out.below z3w
        obtain ⟨r0, r1, r2, r3, r4, r5, r6⟩ := ar3.c7 hi
        have fr := ar3.free
        have lg3 := Nat.lt_of_lt_of_le hgX z3w.size
        have km3 := (show Boxed u3 bm 25 (.slice Am2 km cm2) from (z3w.block _ hmX).trans KM.out).cell
        have fm3 := (show Boxed u3 bm 25 (.slice Am2 km cm2) from (z3w.block _ hmX).trans KM.out).frozen
        have lm3 := Nat.lt_of_lt_of_le hmX z3w.size
        clear ar3 z3w hr3
        refine hK.out _ _ (ke_call HK2.out (fun _ h => h.2.2.2.2.2) hzX z3 hHeld) (fun hHeld2 => ?_)
        clear hK K hHeld
        have hHeld := hHeld2
        clear hHeld2
        (try simp only [Act.put, List.setIfInBounds_toArray, List.set_cons_zero, List.set_cons_succ])
        refine wpAnyH_take (i := 9) (oi := { dst := some 60, op := Go.Op.move (Go.Operand.tmp 69), type := 34, pos := "inject.go:50", after := #[{ on := 8, ground := Go.Ground.data }], guard := none }) (v := ?vrsb7) rfl (by kernel_rfl) (by kernel_rfl) (by kernel_rfl) (fun _ _ _ h => h) (Or.inl ⟨by rfl, ?yrsb7⟩) (by assumption) ?rrsb7
        case yrsb7 => (intro w hSw; (try dsimp only at hSw); go_simp; (try with_reducible rfl))
        (try simp only [Act.put, List.setIfInBounds_toArray, List.set_cons_zero, List.set_cons_succ])
        refine wpAnyH_take (i := 10) (oi := { dst := some 70, op := Go.Op.extract (Go.Operand.tmp 60) 0, type := 25, pos := "inject.go:50", after := #[{ on := 9, ground := Go.Ground.data }], guard := none }) (v := ?vrsb8) rfl (by kernel_rfl) (by kernel_rfl) (by kernel_rfl) (fun _ _ _ h => h) (Or.inl ⟨by rfl, ?yrsb8⟩) (by assumption) ?rrsb8
        case yrsb8 => (intro w hSw; (try dsimp only at hSw); go_simp; (try with_reducible rfl))
        (try simp only [Act.put, List.setIfInBounds_toArray, List.set_cons_zero, List.set_cons_succ])
        refine wpAnyH_take (i := 11) (oi := { dst := some 71, op := Go.Op.extract (Go.Operand.tmp 60) 1, type := 28, pos := "inject.go:50", after := #[{ on := 9, ground := Go.Ground.data }, { on := 12, ground := Go.Ground.gcOnly Go.Departure.lateStores }], guard := none }) (v := ?vrsb9) rfl (by kernel_rfl) (by kernel_rfl) (by kernel_rfl) (fun _ _ _ h => h) (Or.inl ⟨by rfl, ?yrsb9⟩) (by assumption) ?rrsb9
        case yrsb9 => (intro w hSw; (try dsimp only at hSw); go_simp; (try with_reducible rfl))
        (try simp only [Act.put, List.setIfInBounds_toArray, List.set_cons_zero, List.set_cons_succ])
        refine wpAnyH_ready (rs := [12]) (by kernel_rfl) (by simp) ?_
        refine (AllReadyH.cons (o := { dst := none, op := Go.Op.store 25 (Go.Operand.tmp 10) (Go.Operand.tmp 70), type := 0, pos := "inject.go:50", after := #[{ on := 10, ground := Go.Ground.data }, { on := 8, ground := Go.Ground.chain }, { on := 0, ground := Go.Ground.textOnly Go.Departure.lateStores }, { on := 1, ground := Go.Ground.textOnly Go.Departure.lateStores }, { on := 2, ground := Go.Ground.phase }, { on := 3, ground := Go.Ground.phase }, { on := 4, ground := Go.Ground.phase }, { on := 5, ground := Go.Ground.phase }, { on := 6, ground := Go.Ground.phase }, { on := 7, ground := Go.Ground.phase }, { on := 8, ground := Go.Ground.phase }, { on := 9, ground := Go.Ground.phase }, { on := 10, ground := Go.Ground.phase }, { on := 11, ground := Go.Ground.textOnly Go.Departure.lateStores }], guard := none }) rfl (fun K hK => ?_) AllReadyH.nil)
        go_simp
        refine hK.out _ _ (ke_set HK2.out (fun _ h => h.2.2.2.2.2) (by simp) _ _ hHeld) (fun hHeld2 => ?_)
        clear hK K hHeld
        have hHeld := hHeld2
        clear hHeld2
        (try simp only [Act.put, List.setIfInBounds_toArray, List.set_cons_zero, List.set_cons_succ])
        refine wpAnyH_take (i := 13) (oi := { dst := some 72, op := Go.Op.indexAddr 31 (Go.Operand.tmp 61) (Go.Operand.tmp 62), type := 0, pos := "inject.go:50", after := #[{ on := 0, ground := Go.Ground.data }, { on := 1, ground := Go.Ground.data }, { on := 0, ground := Go.Ground.phase }, { on := 1, ground := Go.Ground.phase }, { on := 2, ground := Go.Ground.phase }, { on := 3, ground := Go.Ground.phase }, { on := 4, ground := Go.Ground.phase }, { on := 5, ground := Go.Ground.phase }, { on := 6, ground := Go.Ground.phase }, { on := 7, ground := Go.Ground.phase }, { on := 8, ground := Go.Ground.phase }, { on := 9, ground := Go.Ground.phase }, { on := 10, ground := Go.Ground.phase }, { on := 11, ground := Go.Ground.phase }, { on := 12, ground := Go.Ground.phase }], guard := none }) (v := ?vrsb10) rfl (by kernel_rfl) (by kernel_rfl) (by kernel_rfl) (fun _ _ _ h => h) (Or.inl ⟨by rfl, ?yrsb10⟩) (by assumption) ?rrsb10
        case yrsb10 => (intro w hSw; (try dsimp only at hSw); go_simp; (try with_reducible rfl))
        (try simp only [Act.put, List.setIfInBounds_toArray, List.set_cons_zero, List.set_cons_succ])
        refine wpAnyH_ready (rs := [14]) (by kernel_rfl) (by simp) ?_
        refine (AllReadyH.cons (o := { dst := none, op := Go.Op.store 28 (Go.Operand.tmp 72) (Go.Operand.tmp 71), type := 0, pos := "inject.go:50", after := #[{ on := 13, ground := Go.Ground.data }, { on := 11, ground := Go.Ground.data }, { on := 12, ground := Go.Ground.chain }, { on := 0, ground := Go.Ground.phase }, { on := 1, ground := Go.Ground.phase }, { on := 2, ground := Go.Ground.phase }, { on := 3, ground := Go.Ground.phase }, { on := 4, ground := Go.Ground.phase }, { on := 5, ground := Go.Ground.phase }, { on := 6, ground := Go.Ground.phase }, { on := 7, ground := Go.Ground.phase }, { on := 8, ground := Go.Ground.phase }, { on := 9, ground := Go.Ground.phase }, { on := 10, ground := Go.Ground.phase }, { on := 11, ground := Go.Ground.phase }, { on := 12, ground := Go.Ground.phase }], guard := none }) rfl (fun K hK => ?_) AllReadyH.nil)
        go_simp
        refine hK.out _ _ (ke_pk7 HK2.out (fun _ h => h.2.2.2.2.2) (by simp) _ _ hHeld) (fun hHeld2 => ?_)
        clear hK K hHeld
        have hHeld := hHeld2
        clear hHeld2
        (try simp only [Act.put, List.setIfInBounds_toArray, List.set_cons_zero, List.set_cons_succ])
        refine wpAnyH_done (by kernel_rfl) ?_ _
        gi_wp2_with fail
        refine ⟨trivial, (fun h => by cases h), ?_⟩
        change CallsIn _ _ _ _ _ (pk7 (u3.setCell ⟨bm, 0, none⟩ (.slice A3 km c3)) ga (i * 7) g) _
        have p3 := (P.out.setM (c' := c3) HO.out Z3W.out HR3.out (by rw [HL2.out]; exact HMP.out)).setA HO.out hi g
        rw [HL2.out] at p3
        have P3 := Lib.hid p3
        have K3 := Lib.hid (((K.out.trans (keeps_below Z3W.out)).trans (KeepsOthers.setCell u3 ⟨bm, 0, none⟩ (.slice A3 km c3))).trans (keeps_pk7 (u3.setCell ⟨bm, 0, none⟩ (.slice A3 km c3)) ga (i * 7) g))
        clear p3
        generalize pk7 (u3.setCell ⟨bm, 0, none⟩ (.slice A3 km c3)) ga (i * 7) g = X3 at P3 K3 ⊢
        clear hHeld hHeld0 HK2 Z3W HR3 r0 r1 r2 r3 r4 r5 r6 fr lg3 km3 fm3 lm3 z3 RX KM kmc HGO2 AR2 a0 a1 a2 a3 a4 a5 a6 ka P K
        have hlt2 := Lib.hid (show i < t.a.length by rw [HV.out.al]; exact hi)
        by_cases hr : g.res = 0
        · have hb : (g.res != 0) = false := by simp [hr]
          refine (CallsIn.inRound _ (callsIn_wide.2 (Tells.of (over_any g _) (v' := .bool false) (by rw [hb])))).mono ?_
          rintro _ X4 ⟨rfl, z4⟩
          have P4 := Lib.hid (P3.out.below z4)
          have K4 := Lib.hid (K3.out.trans (keeps_below z4))
          have HR := Lib.hid hr
          clear z4 hb hr P3 K3
          gi_wp2
          have hst := HST.out
          rw [if_pos HR.out] at hst
          have h := FIN.out X4 K4.out (by rw [hst]; exact P4.out)
          exact onP_mk h.1 h.2
        · have hb : (g.res != 0) = true := by simp [hr]
          refine (CallsIn.inRound _ (callsIn_wide.2 (Tells.of (over_any g _) (v' := .bool true) (by rw [hb])))).mono ?_
          rintro _ X4 ⟨rfl, z4⟩
          have P4 := Lib.hid (P3.out.below z4)
          have K4 := Lib.hid (K3.out.trans (keeps_below z4))
          have HR := Lib.hid hr
          clear z4 hb hr P3 K3
          have hz4 : z ≤ X4.heap.size := P4.out.zs
          have hlo : bo < X4.heap.size := by omega
          have ka := P4.out.ab.cell
          have hc7 := P4.out.ar.c7 hi
          rw [getD_set_eq hlt2.out] at hc7
          obtain ⟨a0, a1, a2, a3, a4, a5, a6⟩ := hc7
          obtain ⟨Am5, cm5, Ao5, co5, k1, k2, k3, k4, k6⟩ := P4.out.drew.mo
          have ko : X4.cell? ⟨bo, 0, none⟩ = some (.slice Ao5 t.over.length co5) := k3.cell
          obtain ⟨A6, c6, w6, hrun, hown, hgr, hb6, hblk⟩ := app_one k4 g (by have := HOV.out; omega) P4.out.drew.zs
          have HLOW := Lib.hid (show Below z (X4.drew.alloc (.cells #[.int .i64 g.op, .int .i64 g.pc, .int .i64 g.who, .int .u64 g.val, .int .u64 g.x, .int .u64 g.y, .int .i64 g.res] 28)) w6 from
            ⟨hgr.os, hgr.tape, hgr.output, hgr.size, fun k hk => hgr.block k (by simp; omega) (fun e => by have := (World.ownsRow.lt k4 k e.symm).1; omega)⟩)
          have P6 := Lib.hid (P4.out.drew.setO HO.out k1 k2 k3 k6 (by rw [HL2.out]; exact HMP.out) hown hgr hblk hb6)
          have x6 : Boxed w6 bo 31 (.slice Ao5 t.over.length co5) := (hb6.block bo (by omega)).trans k3
          have ko6 := x6.cell
          have fo6 := x6.frozen
          have lo6 := x6.lt
          have K6 := Lib.hid ((((K4.out.trans (keeps_below (Below.refl _ _).drew)).trans (KeepsOthers.alloc X4.drew (.cells #[.int .i64 g.op, .int .i64 g.pc, .int .i64 g.who, .int .u64 g.val, .int .u64 g.x, .int .u64 g.y, .int .i64 g.res] 28))).trans (KeepsOthers.of_grownBy hgr (fun j o e hj => by
            obtain ⟨o', ho', hc'⟩ := (k4.alloc (.cells #[.int .i64 g.op, .int .i64 g.pc, .int .i64 g.who, .int .u64 g.val, .int .u64 g.x, .int .u64 g.y, .int .i64 g.res] 28)).cells_own e
            rw [hj] at ho'; cases ho'; exact hc'))).trans (KeepsOthers.setCell w6 ⟨bo, 0, none⟩ (.slice A6 (t.over.length + 1) c6)))
          have RUN := Lib.hid hrun
          clear k1 k2 k3 k4 k6 hrun hown hgr hb6 hblk x6
          have HK3 := Lib.hid (show ∀ x', Ke [bo] z X4 x' → (fun w' => w'.cell? ⟨ba, 0, none⟩ = some (.slice (some ⟨ga, 0, none⟩) nc nc) ∧ w'.cell? ⟨ga, i * 7, none⟩ = some (.int .i64 g.op) ∧ w'.cell? ⟨ga, i * 7 + 1, none⟩ = some (.int .i64 g.pc) ∧ w'.cell? ⟨ga, i * 7 + 2, none⟩ = some (.int .i64 g.who) ∧ w'.cell? ⟨ga, i * 7 + 3, none⟩ = some (.int .u64 g.val) ∧ w'.cell? ⟨ga, i * 7 + 4, none⟩ = some (.int .u64 g.x) ∧ w'.cell? ⟨ga, i * 7 + 5, none⟩ = some (.int .u64 g.y) ∧ w'.cell? ⟨ga, i * 7 + 6, none⟩ = some (.int .i64 g.res) ∧ Ke [bo] z X4 w') x' from fun x' hx => by
            have e1 := hx.same ba (by omega) (by simp; omega)
            have e2 := hx.same ga (by omega) (by simp; omega)
            exact ⟨(World.cell?_of_block (a := ⟨ba, 0, none⟩) e1).trans ka, (World.cell?_of_block (a := ⟨ga, i * 7, none⟩) e2).trans a0, (World.cell?_of_block (a := ⟨ga, i * 7 + 1, none⟩) e2).trans a1, (World.cell?_of_block (a := ⟨ga, i * 7 + 2, none⟩) e2).trans a2, (World.cell?_of_block (a := ⟨ga, i * 7 + 3, none⟩) e2).trans a3, (World.cell?_of_block (a := ⟨ga, i * 7 + 4, none⟩) e2).trans a4, (World.cell?_of_block (a := ⟨ga, i * 7 + 5, none⟩) e2).trans a5, (World.cell?_of_block (a := ⟨ga, i * 7 + 6, none⟩) e2).trans a6, hx⟩)
          have hHeld0 := HK3.out _ (Ke.refl _ _ _)
          gi_wp2
          refine wpIn_region_held_round (S := fun w' => w'.cell? ⟨ba, 0, none⟩ = some (.slice (some ⟨ga, 0, none⟩) nc nc) ∧ w'.cell? ⟨ga, i * 7, none⟩ = some (.int .i64 g.op) ∧ w'.cell? ⟨ga, i * 7 + 1, none⟩ = some (.int .i64 g.pc) ∧ w'.cell? ⟨ga, i * 7 + 2, none⟩ = some (.int .i64 g.who) ∧ w'.cell? ⟨ga, i * 7 + 3, none⟩ = some (.int .u64 g.val) ∧ w'.cell? ⟨ga, i * 7 + 4, none⟩ = some (.int .u64 g.x) ∧ w'.cell? ⟨ga, i * 7 + 5, none⟩ = some (.int .u64 g.y) ∧ w'.cell? ⟨ga, i * 7 + 6, none⟩ = some (.int .i64 g.res) ∧ Ke [bo] z X4 w') (by kernel_rfl) (no_defer (by kernel_rfl)) (by rintro ⟨_, _, h⟩; exact h) (ke_drew HK3.out (fun _ h => h.2.2.2.2.2.2.2.2) hHeld0) (fun hHeld => ?_)
          refine wpAnyH_take (i := 1) (oi := { dst := some 79, op := Go.Op.load 31 (Go.Operand.tmp 11), type := 31, pos := "inject.go:52", after := #[], guard := none }) (v := ?vrtn11) rfl (by kernel_rfl) (by kernel_rfl) (by kernel_rfl) (fun _ _ _ h => h) (Or.inl ⟨by rfl, ?yrtn11⟩) (by assumption) ?rrtn11
          case yrtn11 => (intro w hSw; (try dsimp only at hSw); go_simp; (try with_reducible rfl))
          (try simp only [Act.put, List.setIfInBounds_toArray, List.set_cons_zero, List.set_cons_succ])
          refine wpAnyH_take (i := 2) (oi := { dst := some 80, op := Go.Op.move (Go.Operand.tmp 14), type := 3, pos := "inject.go:52", after := #[], guard := none }) (v := ?vrtn12) rfl (by kernel_rfl) (by kernel_rfl) (by kernel_rfl) (fun _ _ _ h => h) (Or.inl ⟨by rfl, ?yrtn12⟩) (by assumption) ?rrtn12
          case yrtn12 => (intro w hSw; (try dsimp only at hSw); go_simp; (try with_reducible rfl))
          (try simp only [Act.put, List.setIfInBounds_toArray, List.set_cons_zero, List.set_cons_succ])
          refine wpAnyH_take (i := 3) (oi := { dst := some 81, op := Go.Op.indexAddr 31 (Go.Operand.tmp 79) (Go.Operand.tmp 80), type := 0, pos := "inject.go:52", after := #[{ on := 1, ground := Go.Ground.data }, { on := 2, ground := Go.Ground.data }], guard := none }) (v := ?vrtn13) rfl (by kernel_rfl) (by kernel_rfl) (by kernel_rfl) (fun _ _ _ h => h) (Or.inl ⟨by rfl, ?yrtn13⟩) (by assumption) ?rrtn13
          case yrtn13 => (intro w hSw; (try dsimp only at hSw); go_simp; (try with_reducible rfl))
          (try simp only [Act.put, List.setIfInBounds_toArray, List.set_cons_zero, List.set_cons_succ])
          refine wpAnyH_take (i := 4) (oi := { dst := some 82, op := Go.Op.load 28 (Go.Operand.tmp 81), type := 28, pos := "inject.go:52", after := #[{ on := 3, ground := Go.Ground.data }], guard := none }) (v := ?vrtn14) rfl (by kernel_rfl) (by kernel_rfl) (by kernel_rfl) (fun _ _ _ h => h) (Or.inl ⟨by rfl, ?yrtn14⟩) (by assumption) ?rrtn14
          case yrtn14 => (intro w hSw; (try dsimp only at hSw); go_simp; (try with_reducible rfl))
          (try simp only [Act.put, List.setIfInBounds_toArray, List.set_cons_zero, List.set_cons_succ])
          refine wpAnyH_ready (rs := [0, 5]) (by kernel_rfl) (by simp) ?_
          refine (AllReadyH.cons (o := { dst := some 78, op := Go.Op.load 31 (Go.Operand.tmp 13), type := 31, pos := "inject.go:52", after := #[], guard := none }) rfl (fun K hK => ?_) (AllReadyH.cons (o := { dst := some 83, op := Go.Op.buildSlice 31 1 #[(0, Go.Operand.tmp 82)], type := 31, pos := "inject.go:52", after := #[{ on := 4, ground := Go.Ground.data }], guard := none }) rfl (fun K hK => ?_) AllReadyH.nil))
          · go_simp
            refine hK.out _ _ (hHeld) (fun hHeld2 => ?_)
            clear hK K hHeld
            have hHeld := hHeld2
            clear hHeld2
            (try simp only [Act.put, List.setIfInBounds_toArray, List.set_cons_zero, List.set_cons_succ])
            refine wpAnyH_ready (rs := [5]) (by kernel_rfl) (by simp) ?_
            refine (AllReadyH.cons (o := { dst := some 83, op := Go.Op.buildSlice 31 1 #[(0, Go.Operand.tmp 82)], type := 31, pos := "inject.go:52", after := #[{ on := 4, ground := Go.Ground.data }], guard := none }) rfl (fun K hK => ?_) AllReadyH.nil)
            go_simp
            refine hK.out _ _ (ke_alloc HK3.out (fun _ h => h.2.2.2.2.2.2.2.2) hz4 _ hHeld) (fun hHeld2 => ?_)
            clear hK K hHeld
            have hHeld := hHeld2
            clear hHeld2
            (try simp only [Act.put, List.setIfInBounds_toArray, List.set_cons_zero, List.set_cons_succ])
            refine wpAnyH_ready (rs := [6]) (by kernel_rfl) (by simp) ?_
            refine (AllReadyH.cons (o := { dst := some 84, op := Go.Op.call { callee := Go.Callee.builtin Go.Builtin.append, args := #[Go.Operand.tmp 78, Go.Operand.tmp 83], argTypes := #[31, 31] }, type := 31, pos := "inject.go:52", after := #[{ on := 0, ground := Go.Ground.data }, { on := 5, ground := Go.Ground.data }], guard := none }) rfl (fun K hK => ?_) AllReadyH.nil)
            refine step_append_run RUN.out ⟨_, _, rfl, rfl, rfl⟩ rfl rfl ?_
            refine hK.out _ _ (ke_low HK3.out (fun _ h => h.2.2.2.2.2.2.2.2) HLOW.out hHeld) (fun hHeld2 => ?_)
            clear hK K hHeld
            have hHeld := hHeld2
            clear hHeld2
            (try simp only [Act.put, List.setIfInBounds_toArray, List.set_cons_zero, List.set_cons_succ])
            refine wpAnyH_ready (rs := [7]) (by kernel_rfl) (by simp) ?_
            refine (AllReadyH.cons (o := { dst := none, op := Go.Op.store 31 (Go.Operand.tmp 13) (Go.Operand.tmp 84), type := 0, pos := "inject.go:52", after := #[{ on := 6, ground := Go.Ground.data }, { on := 6, ground := Go.Ground.chain }, { on := 0, ground := Go.Ground.phase }, { on := 1, ground := Go.Ground.phase }, { on := 2, ground := Go.Ground.phase }, { on := 3, ground := Go.Ground.phase }, { on := 4, ground := Go.Ground.phase }, { on := 5, ground := Go.Ground.phase }, { on := 6, ground := Go.Ground.phase }], guard := none }) rfl (fun K hK => ?_) AllReadyH.nil)
            go_simp
            refine hK.out _ _ (ke_set HK3.out (fun _ h => h.2.2.2.2.2.2.2.2) (by simp) _ _ hHeld) (fun hHeld2 => ?_)
            clear hK K hHeld
            have hHeld := hHeld2
            clear hHeld2
            (try simp only [Act.put, List.setIfInBounds_toArray, List.set_cons_zero, List.set_cons_succ])
            refine wpAnyH_done (by kernel_rfl) ?_ _
            gi_wp2
            change Code.wpIn _ _ _ _ _ _ (w6.setCell ⟨bo, 0, none⟩ (.slice A6 (t.over.length + 1) c6))
            have P5 := P6
            have K5 := K6
            generalize w6.setCell ⟨bo, 0, none⟩ (.slice A6 (t.over.length + 1) c6) = X5 at P5 K5 ⊢
            clear hHeld hHeld0 HK3 ko ko6 fo6 lo6 RUN P6 K6 HLOW ka a0 a1 a2 a3 a4 a5 a6
            have hz5 : z ≤ X5.heap.size := P5.out.zs
            have hg5 : ga < X5.heap.size := by omega
            have ka := P5.out.ab.cell
            have HK4 := Lib.hid (show ∀ x', Ke [ga] z X5 x' → (fun w' => w'.cell? ⟨ba, 0, none⟩ = some (.slice (some ⟨ga, 0, none⟩) nc nc) ∧ Ke [ga] z X5 w') x' from fun x' hx => by
              have e1 := hx.same ba (by omega) (by simp; omega)
              exact ⟨(World.cell?_of_block (a := ⟨ba, 0, none⟩) e1).trans ka, hx⟩)
            have hHeld0 := HK4.out _ (Ke.refl _ _ _)
            refine wpIn_region_held_round (S := fun w' => w'.cell? ⟨ba, 0, none⟩ = some (.slice (some ⟨ga, 0, none⟩) nc nc) ∧ Ke [ga] z X5 w') (by kernel_rfl) (no_defer (by kernel_rfl)) (by rintro ⟨_, _, h⟩; exact h) (ke_drew HK4.out (fun _ h => h.2) hHeld0) (fun hHeld => ?_)
            refine wpAnyH_take (i := 0) (oi := { dst := some 85, op := Go.Op.load 31 (Go.Operand.tmp 11), type := 31, pos := "inject.go:53", after := #[], guard := none }) (v := ?vrun21) rfl (by kernel_rfl) (by kernel_rfl) (by kernel_rfl) (fun _ _ _ h => h) (Or.inl ⟨by rfl, ?yrun21⟩) (by assumption) ?rrun21
            case yrun21 => (intro w hSw; (try dsimp only at hSw); go_simp; (try with_reducible rfl))
            (try simp only [Act.put, List.setIfInBounds_toArray, List.set_cons_zero, List.set_cons_succ])
            refine wpAnyH_take (i := 1) (oi := { dst := some 86, op := Go.Op.move (Go.Operand.tmp 14), type := 3, pos := "inject.go:53", after := #[], guard := none }) (v := ?vrun22) rfl (by kernel_rfl) (by kernel_rfl) (by kernel_rfl) (fun _ _ _ h => h) (Or.inl ⟨by rfl, ?yrun22⟩) (by assumption) ?rrun22
            case yrun22 => (intro w hSw; (try dsimp only at hSw); go_simp; (try with_reducible rfl))
            (try simp only [Act.put, List.setIfInBounds_toArray, List.set_cons_zero, List.set_cons_succ])
            refine wpAnyH_ready (rs := [2]) (by kernel_rfl) (by simp) ?_
            refine (AllReadyH.cons (o := { dst := some 87, op := Go.Op.call { callee := Go.Callee.value (Go.Operand.func 36), args := #[], argTypes := #[] }, type := 28, pos := "inject.go:53", after := #[], guard := none }) rfl (fun K hK => ?_) AllReadyH.nil)
            go_simp
            refine (nocall_any _).mono ?_
            rintro e u9 ⟨rfl, z9⟩
            go_wp2_with fail
            have z9w : Below X5.heap.size X5 u9 := (Below.refl _ _).drew.trans z9
            have Z9W := Lib.hid z9w
            have ar9 := P5.out.ar.below z9w
            obtain ⟨r0, r1, r2, r3, r4, r5, r6⟩ := ar9.c7 hi
            have fr := ar9.free
            have lg9 := Nat.lt_of_lt_of_le hg5 z9w.size
            clear ar9 z9w
            refine hK.out _ _ (ke_call HK4.out (fun _ h => h.2) hz5 z9 hHeld) (fun hHeld2 => ?_)
            clear hK K hHeld
            have hHeld := hHeld2
            clear hHeld2
            (try simp only [Act.put, List.setIfInBounds_toArray, List.set_cons_zero, List.set_cons_succ])
            refine wpAnyH_take (i := 3) (oi := { dst := some 88, op := Go.Op.indexAddr 31 (Go.Operand.tmp 85) (Go.Operand.tmp 86), type := 0, pos := "inject.go:53", after := #[{ on := 0, ground := Go.Ground.data }, { on := 1, ground := Go.Ground.data }, { on := 0, ground := Go.Ground.phase }, { on := 1, ground := Go.Ground.phase }, { on := 2, ground := Go.Ground.phase }], guard := none }) (v := ?vrun23) rfl (by kernel_rfl) (by kernel_rfl) (by kernel_rfl) (fun _ _ _ h => h) (Or.inl ⟨by rfl, ?yrun23⟩) (by assumption) ?rrun23
            case yrun23 => (intro w hSw; (try dsimp only at hSw); go_simp; (try with_reducible rfl))
            (try simp only [Act.put, List.setIfInBounds_toArray, List.set_cons_zero, List.set_cons_succ])
            refine wpAnyH_ready (rs := [4]) (by kernel_rfl) (by simp) ?_
            refine (AllReadyH.cons (o := { dst := none, op := Go.Op.store 28 (Go.Operand.tmp 88) (Go.Operand.tmp 87), type := 0, pos := "inject.go:53", after := #[{ on := 3, ground := Go.Ground.data }, { on := 2, ground := Go.Ground.data }, { on := 2, ground := Go.Ground.chain }, { on := 0, ground := Go.Ground.phase }, { on := 1, ground := Go.Ground.phase }, { on := 2, ground := Go.Ground.phase }], guard := none }) rfl (fun K hK => ?_) AllReadyH.nil)
            go_simp
            refine hK.out _ _ (ke_pk7 HK4.out (fun _ h => h.2) (by simp) _ _ hHeld) (fun hHeld2 => ?_)
            clear hK K hHeld
            have hHeld := hHeld2
            clear hHeld2
            (try simp only [Act.put, List.setIfInBounds_toArray, List.set_cons_zero, List.set_cons_succ])
            refine wpAnyH_done (by kernel_rfl) ?_ _
            gi_wp2
            have hst := HST.out
            rw [if_neg HR.out] at hst
            have h := FIN.out (pk7 u9 ga (i * 7) fno) ((K5.out.trans (keeps_below Z9W.out)).trans (keeps_pk7 u9 ga (i * 7) fno)) (by rw [hst]; have h9 := (P5.out.below Z9W.out).setA HO.out hi fno; rw [List.set_set] at h9; exact h9)
            exact onP_mk h.1 h.2
          · go_simp
            refine hK.out _ _ (ke_alloc HK3.out (fun _ h => h.2.2.2.2.2.2.2.2) hz4 _ hHeld) (fun hHeld2 => ?_)
            clear hK K hHeld
            have hHeld := hHeld2
            clear hHeld2
            (try simp only [Act.put, List.setIfInBounds_toArray, List.set_cons_zero, List.set_cons_succ])
            refine wpAnyH_ready (rs := [0]) (by kernel_rfl) (by simp) ?_
            refine (AllReadyH.cons (o := { dst := some 78, op := Go.Op.load 31 (Go.Operand.tmp 13), type := 31, pos := "inject.go:52", after := #[], guard := none }) rfl (fun K hK => ?_) AllReadyH.nil)
            go_simp
            refine hK.out _ _ (hHeld) (fun hHeld2 => ?_)
            clear hK K hHeld
            have hHeld := hHeld2
            clear hHeld2
            (try simp only [Act.put, List.setIfInBounds_toArray, List.set_cons_zero, List.set_cons_succ])
            refine wpAnyH_ready (rs := [6]) (by kernel_rfl) (by simp) ?_
            refine (AllReadyH.cons (o := { dst := some 84, op := Go.Op.call { callee := Go.Callee.builtin Go.Builtin.append, args := #[Go.Operand.tmp 78, Go.Operand.tmp 83], argTypes := #[31, 31] }, type := 31, pos := "inject.go:52", after := #[{ on := 0, ground := Go.Ground.data }, { on := 5, ground := Go.Ground.data }], guard := none }) rfl (fun K hK => ?_) AllReadyH.nil)
            refine step_append_run RUN.out ⟨_, _, rfl, rfl, rfl⟩ rfl rfl ?_
            refine hK.out _ _ (ke_low HK3.out (fun _ h => h.2.2.2.2.2.2.2.2) HLOW.out hHeld) (fun hHeld2 => ?_)
            clear hK K hHeld
            have hHeld := hHeld2
            clear hHeld2
            (try simp only [Act.put, List.setIfInBounds_toArray, List.set_cons_zero, List.set_cons_succ])
            refine wpAnyH_ready (rs := [7]) (by kernel_rfl) (by simp) ?_
            refine (AllReadyH.cons (o := { dst := none, op := Go.Op.store 31 (Go.Operand.tmp 13) (Go.Operand.tmp 84), type := 0, pos := "inject.go:52", after := #[{ on := 6, ground := Go.Ground.data }, { on := 6, ground := Go.Ground.chain }, { on := 0, ground := Go.Ground.phase }, { on := 1, ground := Go.Ground.phase }, { on := 2, ground := Go.Ground.phase }, { on := 3, ground := Go.Ground.phase }, { on := 4, ground := Go.Ground.phase }, { on := 5, ground := Go.Ground.phase }, { on := 6, ground := Go.Ground.phase }], guard := none }) rfl (fun K hK => ?_) AllReadyH.nil)
            go_simp
            refine hK.out _ _ (ke_set HK3.out (fun _ h => h.2.2.2.2.2.2.2.2) (by simp) _ _ hHeld) (fun hHeld2 => ?_)
            clear hK K hHeld
            have hHeld := hHeld2
            clear hHeld2
            (try simp only [Act.put, List.setIfInBounds_toArray, List.set_cons_zero, List.set_cons_succ])
            refine wpAnyH_done (by kernel_rfl) ?_ _
            gi_wp2
            change Code.wpIn _ _ _ _ _ _ (w6.setCell ⟨bo, 0, none⟩ (.slice A6 (t.over.length + 1) c6))
            have P5 := P6
            have K5 := K6
            generalize w6.setCell ⟨bo, 0, none⟩ (.slice A6 (t.over.length + 1) c6) = X5 at P5 K5 ⊢
            clear hHeld hHeld0 HK3 ko ko6 fo6 lo6 RUN P6 K6 HLOW ka a0 a1 a2 a3 a4 a5 a6
            have hz5 : z ≤ X5.heap.size := P5.out.zs
            have hg5 : ga < X5.heap.size := by omega
            have ka := P5.out.ab.cell
            have HK4 := Lib.hid (show ∀ x', Ke [ga] z X5 x' → (fun w' => w'.cell? ⟨ba, 0, none⟩ = some (.slice (some ⟨ga, 0, none⟩) nc nc) ∧ Ke [ga] z X5 w') x' from fun x' hx => by
              have e1 := hx.same ba (by omega) (by simp; omega)
              exact ⟨(World.cell?_of_block (a := ⟨ba, 0, none⟩) e1).trans ka, hx⟩)
            have hHeld0 := HK4.out _ (Ke.refl _ _ _)
            refine wpIn_region_held_round (S := fun w' => w'.cell? ⟨ba, 0, none⟩ = some (.slice (some ⟨ga, 0, none⟩) nc nc) ∧ Ke [ga] z X5 w') (by kernel_rfl) (no_defer (by kernel_rfl)) (by rintro ⟨_, _, h⟩; exact h) (ke_drew HK4.out (fun _ h => h.2) hHeld0) (fun hHeld => ?_)
            refine wpAnyH_take (i := 0) (oi := { dst := some 85, op := Go.Op.load 31 (Go.Operand.tmp 11), type := 31, pos := "inject.go:53", after := #[], guard := none }) (v := ?vrun31) rfl (by kernel_rfl) (by kernel_rfl) (by kernel_rfl) (fun _ _ _ h => h) (Or.inl ⟨by rfl, ?yrun31⟩) (by assumption) ?rrun31
            case yrun31 => (intro w hSw; (try dsimp only at hSw); go_simp; (try with_reducible rfl))
            (try simp only [Act.put, List.setIfInBounds_toArray, List.set_cons_zero, List.set_cons_succ])
            refine wpAnyH_take (i := 1) (oi := { dst := some 86, op := Go.Op.move (Go.Operand.tmp 14), type := 3, pos := "inject.go:53", after := #[], guard := none }) (v := ?vrun32) rfl (by kernel_rfl) (by kernel_rfl) (by kernel_rfl) (fun _ _ _ h => h) (Or.inl ⟨by rfl, ?yrun32⟩) (by assumption) ?rrun32
            case yrun32 => (intro w hSw; (try dsimp only at hSw); go_simp; (try with_reducible rfl))
            (try simp only [Act.put, List.setIfInBounds_toArray, List.set_cons_zero, List.set_cons_succ])
            refine wpAnyH_ready (rs := [2]) (by kernel_rfl) (by simp) ?_
            refine (AllReadyH.cons (o := { dst := some 87, op := Go.Op.call { callee := Go.Callee.value (Go.Operand.func 36), args := #[], argTypes := #[] }, type := 28, pos := "inject.go:53", after := #[], guard := none }) rfl (fun K hK => ?_) AllReadyH.nil)
            go_simp
            refine (nocall_any _).mono ?_
            rintro e u9 ⟨rfl, z9⟩
            go_wp2_with fail
            have z9w : Below X5.heap.size X5 u9 := (Below.refl _ _).drew.trans z9
            have Z9W := Lib.hid z9w
            have ar9 := P5.out.ar.below z9w
            obtain ⟨r0, r1, r2, r3, r4, r5, r6⟩ := ar9.c7 hi
            have fr := ar9.free
            have lg9 := Nat.lt_of_lt_of_le hg5 z9w.size
            clear ar9 z9w
            refine hK.out _ _ (ke_call HK4.out (fun _ h => h.2) hz5 z9 hHeld) (fun hHeld2 => ?_)
            clear hK K hHeld
            have hHeld := hHeld2
            clear hHeld2
            (try simp only [Act.put, List.setIfInBounds_toArray, List.set_cons_zero, List.set_cons_succ])
            refine wpAnyH_take (i := 3) (oi := { dst := some 88, op := Go.Op.indexAddr 31 (Go.Operand.tmp 85) (Go.Operand.tmp 86), type := 0, pos := "inject.go:53", after := #[{ on := 0, ground := Go.Ground.data }, { on := 1, ground := Go.Ground.data }, { on := 0, ground := Go.Ground.phase }, { on := 1, ground := Go.Ground.phase }, { on := 2, ground := Go.Ground.phase }], guard := none }) (v := ?vrun33) rfl (by kernel_rfl) (by kernel_rfl) (by kernel_rfl) (fun _ _ _ h => h) (Or.inl ⟨by rfl, ?yrun33⟩) (by assumption) ?rrun33
            case yrun33 => (intro w hSw; (try dsimp only at hSw); go_simp; (try with_reducible rfl))
            (try simp only [Act.put, List.setIfInBounds_toArray, List.set_cons_zero, List.set_cons_succ])
            refine wpAnyH_ready (rs := [4]) (by kernel_rfl) (by simp) ?_
            refine (AllReadyH.cons (o := { dst := none, op := Go.Op.store 28 (Go.Operand.tmp 88) (Go.Operand.tmp 87), type := 0, pos := "inject.go:53", after := #[{ on := 3, ground := Go.Ground.data }, { on := 2, ground := Go.Ground.data }, { on := 2, ground := Go.Ground.chain }, { on := 0, ground := Go.Ground.phase }, { on := 1, ground := Go.Ground.phase }, { on := 2, ground := Go.Ground.phase }], guard := none }) rfl (fun K hK => ?_) AllReadyH.nil)
            go_simp
            refine hK.out _ _ (ke_pk7 HK4.out (fun _ h => h.2) (by simp) _ _ hHeld) (fun hHeld2 => ?_)
            clear hK K hHeld
            have hHeld := hHeld2
            clear hHeld2
            (try simp only [Act.put, List.setIfInBounds_toArray, List.set_cons_zero, List.set_cons_succ])
            refine wpAnyH_done (by kernel_rfl) ?_ _
            gi_wp2
            have hst := HST.out
            rw [if_neg HR.out] at hst
            have h := FIN.out (pk7 u9 ga (i * 7) fno) ((K5.out.trans (keeps_below Z9W.out)).trans (keeps_pk7 u9 ga (i * 7) fno)) (by rw [hst]; have h9 := (P5.out.below Z9W.out).setA HO.out hi fno; rw [List.set_set] at h9; exact h9)
            exact onP_mk h.1 h.2
      · go_simp
        refine hK.out _ _ (hHeld) (fun hHeld2 => ?_)
        clear hK K hHeld
        have hHeld := hHeld2
        clear hHeld2
        (try simp only [Act.put, List.setIfInBounds_toArray, List.set_cons_zero, List.set_cons_succ])
        refine wpAnyH_ready (rs := [3]) (by kernel_rfl) (by simp) ?_
        refine (AllReadyH.cons (o := { dst := some 64, op := Go.Op.load 25 (Go.Operand.tmp 10), type := 25, pos := "inject.go:50", after := #[], guard := none }) rfl (fun K hK => ?_) AllReadyH.nil)
        go_simp
        refine hK.out _ _ (hHeld) (fun hHeld2 => ?_)
        clear hK K hHeld
        have hHeld := hHeld2
        clear hHeld2
        (try simp only [Act.put, List.setIfInBounds_toArray, List.set_cons_zero, List.set_cons_succ])
        refine wpAnyH_ready (rs := [8]) (by kernel_rfl) (by simp) ?_
        refine (AllReadyH.cons (o := { dst := some 69, op := Go.Op.call { callee := Go.Callee.value (Go.Operand.func 12), args := #[Go.Operand.tmp 63, Go.Operand.tmp 64, Go.Operand.tmp 68], argTypes := #[23, 25, 28] }, type := 34, pos := "inject.go:50", after := #[{ on := 2, ground := Go.Ground.data }, { on := 3, ground := Go.Ground.data }, { on := 7, ground := Go.Ground.data }], guard := none }) rfl (fun K hK => ?_) AllReadyH.nil)
        go_simp
        refine (HGO2.out _ (RX.out.below (Below.refl _ _).drew)).mono ?_
        rintro e u3 ⟨A3, c3, rfl, hr3, z3⟩
        go_wp2_with fail
        have z3w : Below X.heap.size X u3 := (Below.refl _ _).drew.trans z3
        have Z3W := Lib.hid z3w
        have HR3 := Lib.hid (show Rn X.heap.size u3 A3 m2 from hr3)
        have ar3 := AR2.out.below z3w
        obtain ⟨r0, r1, r2, r3, r4, r5, r6⟩ := ar3.c7 hi
        have fr := ar3.free
        have lg3 := Nat.lt_of_lt_of_le hgX z3w.size
        have km3 := (show Boxed u3 bm 25 (.slice Am2 km cm2) from (z3w.block _ hmX).trans KM.out).cell
        have fm3 := (show Boxed u3 bm 25 (.slice Am2 km cm2) from (z3w.block _ hmX).trans KM.out).frozen
        have lm3 := Nat.lt_of_lt_of_le hmX z3w.size
        clear ar3 z3w hr3
        refine hK.out _ _ (ke_call HK2.out (fun _ h => h.2.2.2.2.2) hzX z3 hHeld) (fun hHeld2 => ?_)
        clear hK K hHeld
        have hHeld := hHeld2
        clear hHeld2
        (try simp only [Act.put, List.setIfInBounds_toArray, List.set_cons_zero, List.set_cons_succ])
        refine wpAnyH_take (i := 9) (oi := { dst := some 60, op := Go.Op.move (Go.Operand.tmp 69), type := 34, pos := "inject.go:50", after := #[{ on := 8, ground := Go.Ground.data }], guard := none }) (v := ?vrsb11) rfl (by kernel_rfl) (by kernel_rfl) (by kernel_rfl) (fun _ _ _ h => h) (Or.inl ⟨by rfl, ?yrsb11⟩) (by assumption) ?rrsb11
        case yrsb11 => (intro w hSw; (try dsimp only at hSw); go_simp; (try with_reducible rfl))
        (try simp only [Act.put, List.setIfInBounds_toArray, List.set_cons_zero, List.set_cons_succ])
        refine wpAnyH_take (i := 10) (oi := { dst := some 70, op := Go.Op.extract (Go.Operand.tmp 60) 0, type := 25, pos := "inject.go:50", after := #[{ on := 9, ground := Go.Ground.data }], guard := none }) (v := ?vrsb12) rfl (by kernel_rfl) (by kernel_rfl) (by kernel_rfl) (fun _ _ _ h => h) (Or.inl ⟨by rfl, ?yrsb12⟩) (by assumption) ?rrsb12
        case yrsb12 => (intro w hSw; (try dsimp only at hSw); go_simp; (try with_reducible rfl))
        (try simp only [Act.put, List.setIfInBounds_toArray, List.set_cons_zero, List.set_cons_succ])
        refine wpAnyH_take (i := 11) (oi := { dst := some 71, op := Go.Op.extract (Go.Operand.tmp 60) 1, type := 28, pos := "inject.go:50", after := #[{ on := 9, ground := Go.Ground.data }, { on := 12, ground := Go.Ground.gcOnly Go.Departure.lateStores }], guard := none }) (v := ?vrsb13) rfl (by kernel_rfl) (by kernel_rfl) (by kernel_rfl) (fun _ _ _ h => h) (Or.inl ⟨by rfl, ?yrsb13⟩) (by assumption) ?rrsb13
        case yrsb13 => (intro w hSw; (try dsimp only at hSw); go_simp; (try with_reducible rfl))
        (try simp only [Act.put, List.setIfInBounds_toArray, List.set_cons_zero, List.set_cons_succ])
        refine wpAnyH_ready (rs := [12]) (by kernel_rfl) (by simp) ?_
        refine (AllReadyH.cons (o := { dst := none, op := Go.Op.store 25 (Go.Operand.tmp 10) (Go.Operand.tmp 70), type := 0, pos := "inject.go:50", after := #[{ on := 10, ground := Go.Ground.data }, { on := 8, ground := Go.Ground.chain }, { on := 0, ground := Go.Ground.textOnly Go.Departure.lateStores }, { on := 1, ground := Go.Ground.textOnly Go.Departure.lateStores }, { on := 2, ground := Go.Ground.phase }, { on := 3, ground := Go.Ground.phase }, { on := 4, ground := Go.Ground.phase }, { on := 5, ground := Go.Ground.phase }, { on := 6, ground := Go.Ground.phase }, { on := 7, ground := Go.Ground.phase }, { on := 8, ground := Go.Ground.phase }, { on := 9, ground := Go.Ground.phase }, { on := 10, ground := Go.Ground.phase }, { on := 11, ground := Go.Ground.textOnly Go.Departure.lateStores }], guard := none }) rfl (fun K hK => ?_) AllReadyH.nil)
        go_simp
        refine hK.out _ _ (ke_set HK2.out (fun _ h => h.2.2.2.2.2) (by simp) _ _ hHeld) (fun hHeld2 => ?_)
        clear hK K hHeld
        have hHeld := hHeld2
        clear hHeld2
        (try simp only [Act.put, List.setIfInBounds_toArray, List.set_cons_zero, List.set_cons_succ])
        refine wpAnyH_take (i := 13) (oi := { dst := some 72, op := Go.Op.indexAddr 31 (Go.Operand.tmp 61) (Go.Operand.tmp 62), type := 0, pos := "inject.go:50", after := #[{ on := 0, ground := Go.Ground.data }, { on := 1, ground := Go.Ground.data }, { on := 0, ground := Go.Ground.phase }, { on := 1, ground := Go.Ground.phase }, { on := 2, ground := Go.Ground.phase }, { on := 3, ground := Go.Ground.phase }, { on := 4, ground := Go.Ground.phase }, { on := 5, ground := Go.Ground.phase }, { on := 6, ground := Go.Ground.phase }, { on := 7, ground := Go.Ground.phase }, { on := 8, ground := Go.Ground.phase }, { on := 9, ground := Go.Ground.phase }, { on := 10, ground := Go.Ground.phase }, { on := 11, ground := Go.Ground.phase }, { on := 12, ground := Go.Ground.phase }], guard := none }) (v := ?vrsb14) rfl (by kernel_rfl) (by kernel_rfl) (by kernel_rfl) (fun _ _ _ h => h) (Or.inl ⟨by rfl, ?yrsb14⟩) (by assumption) ?rrsb14
        case yrsb14 => (intro w hSw; (try dsimp only at hSw); go_simp; (try with_reducible rfl))
        (try simp only [Act.put, List.setIfInBounds_toArray, List.set_cons_zero, List.set_cons_succ])
        refine wpAnyH_ready (rs := [14]) (by kernel_rfl) (by simp) ?_
        refine (AllReadyH.cons (o := { dst := none, op := Go.Op.store 28 (Go.Operand.tmp 72) (Go.Operand.tmp 71), type := 0, pos := "inject.go:50", after := #[{ on := 13, ground := Go.Ground.data }, { on := 11, ground := Go.Ground.data }, { on := 12, ground := Go.Ground.chain }, { on := 0, ground := Go.Ground.phase }, { on := 1, ground := Go.Ground.phase }, { on := 2, ground := Go.Ground.phase }, { on := 3, ground := Go.Ground.phase }, { on := 4, ground := Go.Ground.phase }, { on := 5, ground := Go.Ground.phase }, { on := 6, ground := Go.Ground.phase }, { on := 7, ground := Go.Ground.phase }, { on := 8, ground := Go.Ground.phase }, { on := 9, ground := Go.Ground.phase }, { on := 10, ground := Go.Ground.phase }, { on := 11, ground := Go.Ground.phase }, { on := 12, ground := Go.Ground.phase }], guard := none }) rfl (fun K hK => ?_) AllReadyH.nil)
        go_simp
        refine hK.out _ _ (ke_pk7 HK2.out (fun _ h => h.2.2.2.2.2) (by simp) _ _ hHeld) (fun hHeld2 => ?_)
        clear hK K hHeld
        have hHeld := hHeld2
        clear hHeld2
        (try simp only [Act.put, List.setIfInBounds_toArray, List.set_cons_zero, List.set_cons_succ])
        refine wpAnyH_done (by kernel_rfl) ?_ _
        gi_wp2_with fail
        refine ⟨trivial, (fun h => by cases h), ?_⟩
        change CallsIn _ _ _ _ _ (pk7 (u3.setCell ⟨bm, 0, none⟩ (.slice A3 km c3)) ga (i * 7) g) _
        have p3 := (P.out.setM (c' := c3) HO.out Z3W.out HR3.out (by rw [HL2.out]; exact HMP.out)).setA HO.out hi g
        rw [HL2.out] at p3
        have P3 := Lib.hid p3
        have K3 := Lib.hid (((K.out.trans (keeps_below Z3W.out)).trans (KeepsOthers.setCell u3 ⟨bm, 0, none⟩ (.slice A3 km c3))).trans (keeps_pk7 (u3.setCell ⟨bm, 0, none⟩ (.slice A3 km c3)) ga (i * 7) g))
        clear p3
        generalize pk7 (u3.setCell ⟨bm, 0, none⟩ (.slice A3 km c3)) ga (i * 7) g = X3 at P3 K3 ⊢
        clear hHeld hHeld0 HK2 Z3W HR3 r0 r1 r2 r3 r4 r5 r6 fr lg3 km3 fm3 lm3 z3 RX KM kmc HGO2 AR2 a0 a1 a2 a3 a4 a5 a6 ka P K
        have hlt2 := Lib.hid (show i < t.a.length by rw [HV.out.al]; exact hi)
        by_cases hr : g.res = 0
        · have hb : (g.res != 0) = false := by simp [hr]
          refine (CallsIn.inRound _ (callsIn_wide.2 (Tells.of (over_any g _) (v' := .bool false) (by rw [hb])))).mono ?_
          rintro _ X4 ⟨rfl, z4⟩
          have P4 := Lib.hid (P3.out.below z4)
          have K4 := Lib.hid (K3.out.trans (keeps_below z4))
          have HR := Lib.hid hr
          clear z4 hb hr P3 K3
          gi_wp2
          have hst := HST.out
          rw [if_pos HR.out] at hst
          have h := FIN.out X4 K4.out (by rw [hst]; exact P4.out)
          exact onP_mk h.1 h.2
        · have hb : (g.res != 0) = true := by simp [hr]
          refine (CallsIn.inRound _ (callsIn_wide.2 (Tells.of (over_any g _) (v' := .bool true) (by rw [hb])))).mono ?_
          rintro _ X4 ⟨rfl, z4⟩
          have P4 := Lib.hid (P3.out.below z4)
          have K4 := Lib.hid (K3.out.trans (keeps_below z4))
          have HR := Lib.hid hr
          clear z4 hb hr P3 K3
          have hz4 : z ≤ X4.heap.size := P4.out.zs
          have hlo : bo < X4.heap.size := by omega
          have ka := P4.out.ab.cell
          have hc7 := P4.out.ar.c7 hi
          rw [getD_set_eq hlt2.out] at hc7
          obtain ⟨a0, a1, a2, a3, a4, a5, a6⟩ := hc7
          obtain ⟨Am5, cm5, Ao5, co5, k1, k2, k3, k4, k6⟩ := P4.out.drew.mo
          have ko : X4.cell? ⟨bo, 0, none⟩ = some (.slice Ao5 t.over.length co5) := k3.cell
          obtain ⟨A6, c6, w6, hrun, hown, hgr, hb6, hblk⟩ := app_one k4 g (by have := HOV.out; omega) P4.out.drew.zs
          have HLOW := Lib.hid (show Below z (X4.drew.alloc (.cells #[.int .i64 g.op, .int .i64 g.pc, .int .i64 g.who, .int .u64 g.val, .int .u64 g.x, .int .u64 g.y, .int .i64 g.res] 28)) w6 from
            ⟨hgr.os, hgr.tape, hgr.output, hgr.size, fun k hk => hgr.block k (by simp; omega) (fun e => by have := (World.ownsRow.lt k4 k e.symm).1; omega)⟩)
          have P6 := Lib.hid (P4.out.drew.setO HO.out k1 k2 k3 k6 (by rw [HL2.out]; exact HMP.out) hown hgr hblk hb6)
          have x6 : Boxed w6 bo 31 (.slice Ao5 t.over.length co5) := (hb6.block bo (by omega)).trans k3
          have ko6 := x6.cell
          have fo6 := x6.frozen
          have lo6 := x6.lt
          have K6 := Lib.hid ((((K4.out.trans (keeps_below (Below.refl _ _).drew)).trans (KeepsOthers.alloc X4.drew (.cells #[.int .i64 g.op, .int .i64 g.pc, .int .i64 g.who, .int .u64 g.val, .int .u64 g.x, .int .u64 g.y, .int .i64 g.res] 28))).trans (KeepsOthers.of_grownBy hgr (fun j o e hj => by
            obtain ⟨o', ho', hc'⟩ := (k4.alloc (.cells #[.int .i64 g.op, .int .i64 g.pc, .int .i64 g.who, .int .u64 g.val, .int .u64 g.x, .int .u64 g.y, .int .i64 g.res] 28)).cells_own e
            rw [hj] at ho'; cases ho'; exact hc'))).trans (KeepsOthers.setCell w6 ⟨bo, 0, none⟩ (.slice A6 (t.over.length + 1) c6)))
          have RUN := Lib.hid hrun
          clear k1 k2 k3 k4 k6 hrun hown hgr hb6 hblk x6
          have HK3 := Lib.hid (show ∀ x', Ke [bo] z X4 x' → (fun w' => w'.cell? ⟨ba, 0, none⟩ = some (.slice (some ⟨ga, 0, none⟩) nc nc) ∧ w'.cell? ⟨ga, i * 7, none⟩ = some (.int .i64 g.op) ∧ w'.cell? ⟨ga, i * 7 + 1, none⟩ = some (.int .i64 g.pc) ∧ w'.cell? ⟨ga, i * 7 + 2, none⟩ = some (.int .i64 g.who) ∧ w'.cell? ⟨ga, i * 7 + 3, none⟩ = some (.int .u64 g.val) ∧ w'.cell? ⟨ga, i * 7 + 4, none⟩ = some (.int .u64 g.x) ∧ w'.cell? ⟨ga, i * 7 + 5, none⟩ = some (.int .u64 g.y) ∧ w'.cell? ⟨ga, i * 7 + 6, none⟩ = some (.int .i64 g.res) ∧ Ke [bo] z X4 w') x' from fun x' hx => by
            have e1 := hx.same ba (by omega) (by simp; omega)
            have e2 := hx.same ga (by omega) (by simp; omega)
            exact ⟨(World.cell?_of_block (a := ⟨ba, 0, none⟩) e1).trans ka, (World.cell?_of_block (a := ⟨ga, i * 7, none⟩) e2).trans a0, (World.cell?_of_block (a := ⟨ga, i * 7 + 1, none⟩) e2).trans a1, (World.cell?_of_block (a := ⟨ga, i * 7 + 2, none⟩) e2).trans a2, (World.cell?_of_block (a := ⟨ga, i * 7 + 3, none⟩) e2).trans a3, (World.cell?_of_block (a := ⟨ga, i * 7 + 4, none⟩) e2).trans a4, (World.cell?_of_block (a := ⟨ga, i * 7 + 5, none⟩) e2).trans a5, (World.cell?_of_block (a := ⟨ga, i * 7 + 6, none⟩) e2).trans a6, hx⟩)
          have hHeld0 := HK3.out _ (Ke.refl _ _ _)
          gi_wp2
          refine wpIn_region_held_round (S := fun w' => w'.cell? ⟨ba, 0, none⟩ = some (.slice (some ⟨ga, 0, none⟩) nc nc) ∧ w'.cell? ⟨ga, i * 7, none⟩ = some (.int .i64 g.op) ∧ w'.cell? ⟨ga, i * 7 + 1, none⟩ = some (.int .i64 g.pc) ∧ w'.cell? ⟨ga, i * 7 + 2, none⟩ = some (.int .i64 g.who) ∧ w'.cell? ⟨ga, i * 7 + 3, none⟩ = some (.int .u64 g.val) ∧ w'.cell? ⟨ga, i * 7 + 4, none⟩ = some (.int .u64 g.x) ∧ w'.cell? ⟨ga, i * 7 + 5, none⟩ = some (.int .u64 g.y) ∧ w'.cell? ⟨ga, i * 7 + 6, none⟩ = some (.int .i64 g.res) ∧ Ke [bo] z X4 w') (by kernel_rfl) (no_defer (by kernel_rfl)) (by rintro ⟨_, _, h⟩; exact h) (ke_drew HK3.out (fun _ h => h.2.2.2.2.2.2.2.2) hHeld0) (fun hHeld => ?_)
          refine wpAnyH_take (i := 1) (oi := { dst := some 79, op := Go.Op.load 31 (Go.Operand.tmp 11), type := 31, pos := "inject.go:52", after := #[], guard := none }) (v := ?vrtn41) rfl (by kernel_rfl) (by kernel_rfl) (by kernel_rfl) (fun _ _ _ h => h) (Or.inl ⟨by rfl, ?yrtn41⟩) (by assumption) ?rrtn41
          case yrtn41 => (intro w hSw; (try dsimp only at hSw); go_simp; (try with_reducible rfl))
          (try simp only [Act.put, List.setIfInBounds_toArray, List.set_cons_zero, List.set_cons_succ])
          refine wpAnyH_take (i := 2) (oi := { dst := some 80, op := Go.Op.move (Go.Operand.tmp 14), type := 3, pos := "inject.go:52", after := #[], guard := none }) (v := ?vrtn42) rfl (by kernel_rfl) (by kernel_rfl) (by kernel_rfl) (fun _ _ _ h => h) (Or.inl ⟨by rfl, ?yrtn42⟩) (by assumption) ?rrtn42
          case yrtn42 => (intro w hSw; (try dsimp only at hSw); go_simp; (try with_reducible rfl))
          (try simp only [Act.put, List.setIfInBounds_toArray, List.set_cons_zero, List.set_cons_succ])
          refine wpAnyH_take (i := 3) (oi := { dst := some 81, op := Go.Op.indexAddr 31 (Go.Operand.tmp 79) (Go.Operand.tmp 80), type := 0, pos := "inject.go:52", after := #[{ on := 1, ground := Go.Ground.data }, { on := 2, ground := Go.Ground.data }], guard := none }) (v := ?vrtn43) rfl (by kernel_rfl) (by kernel_rfl) (by kernel_rfl) (fun _ _ _ h => h) (Or.inl ⟨by rfl, ?yrtn43⟩) (by assumption) ?rrtn43
          case yrtn43 => (intro w hSw; (try dsimp only at hSw); go_simp; (try with_reducible rfl))
          (try simp only [Act.put, List.setIfInBounds_toArray, List.set_cons_zero, List.set_cons_succ])
          refine wpAnyH_take (i := 4) (oi := { dst := some 82, op := Go.Op.load 28 (Go.Operand.tmp 81), type := 28, pos := "inject.go:52", after := #[{ on := 3, ground := Go.Ground.data }], guard := none }) (v := ?vrtn44) rfl (by kernel_rfl) (by kernel_rfl) (by kernel_rfl) (fun _ _ _ h => h) (Or.inl ⟨by rfl, ?yrtn44⟩) (by assumption) ?rrtn44
          case yrtn44 => (intro w hSw; (try dsimp only at hSw); go_simp; (try with_reducible rfl))
          (try simp only [Act.put, List.setIfInBounds_toArray, List.set_cons_zero, List.set_cons_succ])
          refine wpAnyH_ready (rs := [0, 5]) (by kernel_rfl) (by simp) ?_
          refine (AllReadyH.cons (o := { dst := some 78, op := Go.Op.load 31 (Go.Operand.tmp 13), type := 31, pos := "inject.go:52", after := #[], guard := none }) rfl (fun K hK => ?_) (AllReadyH.cons (o := { dst := some 83, op := Go.Op.buildSlice 31 1 #[(0, Go.Operand.tmp 82)], type := 31, pos := "inject.go:52", after := #[{ on := 4, ground := Go.Ground.data }], guard := none }) rfl (fun K hK => ?_) AllReadyH.nil))
          · go_simp
            refine hK.out _ _ (hHeld) (fun hHeld2 => ?_)
            clear hK K hHeld
            have hHeld := hHeld2
            clear hHeld2
            (try simp only [Act.put, List.setIfInBounds_toArray, List.set_cons_zero, List.set_cons_succ])
            refine wpAnyH_ready (rs := [5]) (by kernel_rfl) (by simp) ?_
            refine (AllReadyH.cons (o := { dst := some 83, op := Go.Op.buildSlice 31 1 #[(0, Go.Operand.tmp 82)], type := 31, pos := "inject.go:52", after := #[{ on := 4, ground := Go.Ground.data }], guard := none }) rfl (fun K hK => ?_) AllReadyH.nil)
            go_simp
            refine hK.out _ _ (ke_alloc HK3.out (fun _ h => h.2.2.2.2.2.2.2.2) hz4 _ hHeld) (fun hHeld2 => ?_)
            clear hK K hHeld
            have hHeld := hHeld2
            clear hHeld2
            (try simp only [Act.put, List.setIfInBounds_toArray, List.set_cons_zero, List.set_cons_succ])
            refine wpAnyH_ready (rs := [6]) (by kernel_rfl) (by simp) ?_
            refine (AllReadyH.cons (o := { dst := some 84, op := Go.Op.call { callee := Go.Callee.builtin Go.Builtin.append, args := #[Go.Operand.tmp 78, Go.Operand.tmp 83], argTypes := #[31, 31] }, type := 31, pos := "inject.go:52", after := #[{ on := 0, ground := Go.Ground.data }, { on := 5, ground := Go.Ground.data }], guard := none }) rfl (fun K hK => ?_) AllReadyH.nil)
            refine step_append_run RUN.out ⟨_, _, rfl, rfl, rfl⟩ rfl rfl ?_
            refine hK.out _ _ (ke_low HK3.out (fun _ h => h.2.2.2.2.2.2.2.2) HLOW.out hHeld) (fun hHeld2 => ?_)
            clear hK K hHeld
            have hHeld := hHeld2
            clear hHeld2
            (try simp only [Act.put, List.setIfInBounds_toArray, List.set_cons_zero, List.set_cons_succ])
            refine wpAnyH_ready (rs := [7]) (by kernel_rfl) (by simp) ?_
            refine (AllReadyH.cons (o := { dst := none, op := Go.Op.store 31 (Go.Operand.tmp 13) (Go.Operand.tmp 84), type := 0, pos := "inject.go:52", after := #[{ on := 6, ground := Go.Ground.data }, { on := 6, ground := Go.Ground.chain }, { on := 0, ground := Go.Ground.phase }, { on := 1, ground := Go.Ground.phase }, { on := 2, ground := Go.Ground.phase }, { on := 3, ground := Go.Ground.phase }, { on := 4, ground := Go.Ground.phase }, { on := 5, ground := Go.Ground.phase }, { on := 6, ground := Go.Ground.phase }], guard := none }) rfl (fun K hK => ?_) AllReadyH.nil)
            go_simp
            refine hK.out _ _ (ke_set HK3.out (fun _ h => h.2.2.2.2.2.2.2.2) (by simp) _ _ hHeld) (fun hHeld2 => ?_)
            clear hK K hHeld
            have hHeld := hHeld2
            clear hHeld2
            (try simp only [Act.put, List.setIfInBounds_toArray, List.set_cons_zero, List.set_cons_succ])
            refine wpAnyH_done (by kernel_rfl) ?_ _
            gi_wp2
            change Code.wpIn _ _ _ _ _ _ (w6.setCell ⟨bo, 0, none⟩ (.slice A6 (t.over.length + 1) c6))
            have P5 := P6
            have K5 := K6
            generalize w6.setCell ⟨bo, 0, none⟩ (.slice A6 (t.over.length + 1) c6) = X5 at P5 K5 ⊢
            clear hHeld hHeld0 HK3 ko ko6 fo6 lo6 RUN P6 K6 HLOW ka a0 a1 a2 a3 a4 a5 a6
            have hz5 : z ≤ X5.heap.size := P5.out.zs
            have hg5 : ga < X5.heap.size := by omega
            have ka := P5.out.ab.cell
            have HK4 := Lib.hid (show ∀ x', Ke [ga] z X5 x' → (fun w' => w'.cell? ⟨ba, 0, none⟩ = some (.slice (some ⟨ga, 0, none⟩) nc nc) ∧ Ke [ga] z X5 w') x' from fun x' hx => by
              have e1 := hx.same ba (by omega) (by simp; omega)
              exact ⟨(World.cell?_of_block (a := ⟨ba, 0, none⟩) e1).trans ka, hx⟩)
            have hHeld0 := HK4.out _ (Ke.refl _ _ _)
            refine wpIn_region_held_round (S := fun w' => w'.cell? ⟨ba, 0, none⟩ = some (.slice (some ⟨ga, 0, none⟩) nc nc) ∧ Ke [ga] z X5 w') (by kernel_rfl) (no_defer (by kernel_rfl)) (by rintro ⟨_, _, h⟩; exact h) (ke_drew HK4.out (fun _ h => h.2) hHeld0) (fun hHeld => ?_)
            refine wpAnyH_take (i := 0) (oi := { dst := some 85, op := Go.Op.load 31 (Go.Operand.tmp 11), type := 31, pos := "inject.go:53", after := #[], guard := none }) (v := ?vrun51) rfl (by kernel_rfl) (by kernel_rfl) (by kernel_rfl) (fun _ _ _ h => h) (Or.inl ⟨by rfl, ?yrun51⟩) (by assumption) ?rrun51
            case yrun51 => (intro w hSw; (try dsimp only at hSw); go_simp; (try with_reducible rfl))
            (try simp only [Act.put, List.setIfInBounds_toArray, List.set_cons_zero, List.set_cons_succ])
            refine wpAnyH_take (i := 1) (oi := { dst := some 86, op := Go.Op.move (Go.Operand.tmp 14), type := 3, pos := "inject.go:53", after := #[], guard := none }) (v := ?vrun52) rfl (by kernel_rfl) (by kernel_rfl) (by kernel_rfl) (fun _ _ _ h => h) (Or.inl ⟨by rfl, ?yrun52⟩) (by assumption) ?rrun52
            case yrun52 => (intro w hSw; (try dsimp only at hSw); go_simp; (try with_reducible rfl))
            (try simp only [Act.put, List.setIfInBounds_toArray, List.set_cons_zero, List.set_cons_succ])
            refine wpAnyH_ready (rs := [2]) (by kernel_rfl) (by simp) ?_
            refine (AllReadyH.cons (o := { dst := some 87, op := Go.Op.call { callee := Go.Callee.value (Go.Operand.func 36), args := #[], argTypes := #[] }, type := 28, pos := "inject.go:53", after := #[], guard := none }) rfl (fun K hK => ?_) AllReadyH.nil)
            go_simp
            refine (nocall_any _).mono ?_
            rintro e u9 ⟨rfl, z9⟩
            go_wp2_with fail
            have z9w : Below X5.heap.size X5 u9 := (Below.refl _ _).drew.trans z9
            have Z9W := Lib.hid z9w
            have ar9 := P5.out.ar.below z9w
            obtain ⟨r0, r1, r2, r3, r4, r5, r6⟩ := ar9.c7 hi
            have fr := ar9.free
            have lg9 := Nat.lt_of_lt_of_le hg5 z9w.size
            clear ar9 z9w
            refine hK.out _ _ (ke_call HK4.out (fun _ h => h.2) hz5 z9 hHeld) (fun hHeld2 => ?_)
            clear hK K hHeld
            have hHeld := hHeld2
            clear hHeld2
            (try simp only [Act.put, List.setIfInBounds_toArray, List.set_cons_zero, List.set_cons_succ])
            refine wpAnyH_take (i := 3) (oi := { dst := some 88, op := Go.Op.indexAddr 31 (Go.Operand.tmp 85) (Go.Operand.tmp 86), type := 0, pos := "inject.go:53", after := #[{ on := 0, ground := Go.Ground.data }, { on := 1, ground := Go.Ground.data }, { on := 0, ground := Go.Ground.phase }, { on := 1, ground := Go.Ground.phase }, { on := 2, ground := Go.Ground.phase }], guard := none }) (v := ?vrun53) rfl (by kernel_rfl) (by kernel_rfl) (by kernel_rfl) (fun _ _ _ h => h) (Or.inl ⟨by rfl, ?yrun53⟩) (by assumption) ?rrun53
            case yrun53 => (intro w hSw; (try dsimp only at hSw); go_simp; (try with_reducible rfl))
            (try simp only [Act.put, List.setIfInBounds_toArray, List.set_cons_zero, List.set_cons_succ])
            refine wpAnyH_ready (rs := [4]) (by kernel_rfl) (by simp) ?_
            refine (AllReadyH.cons (o := { dst := none, op := Go.Op.store 28 (Go.Operand.tmp 88) (Go.Operand.tmp 87), type := 0, pos := "inject.go:53", after := #[{ on := 3, ground := Go.Ground.data }, { on := 2, ground := Go.Ground.data }, { on := 2, ground := Go.Ground.chain }, { on := 0, ground := Go.Ground.phase }, { on := 1, ground := Go.Ground.phase }, { on := 2, ground := Go.Ground.phase }], guard := none }) rfl (fun K hK => ?_) AllReadyH.nil)
            go_simp
            refine hK.out _ _ (ke_pk7 HK4.out (fun _ h => h.2) (by simp) _ _ hHeld) (fun hHeld2 => ?_)
            clear hK K hHeld
            have hHeld := hHeld2
            clear hHeld2
            (try simp only [Act.put, List.setIfInBounds_toArray, List.set_cons_zero, List.set_cons_succ])
            refine wpAnyH_done (by kernel_rfl) ?_ _
            gi_wp2
            have hst := HST.out
            rw [if_neg HR.out] at hst
            have h := FIN.out (pk7 u9 ga (i * 7) fno) ((K5.out.trans (keeps_below Z9W.out)).trans (keeps_pk7 u9 ga (i * 7) fno)) (by rw [hst]; have h9 := (P5.out.below Z9W.out).setA HO.out hi fno; rw [List.set_set] at h9; exact h9)
            exact onP_mk h.1 h.2
          · go_simp
            refine hK.out _ _ (ke_alloc HK3.out (fun _ h => h.2.2.2.2.2.2.2.2) hz4 _ hHeld) (fun hHeld2 => ?_)
            clear hK K hHeld
            have hHeld := hHeld2
            clear hHeld2
            (try simp only [Act.put, List.setIfInBounds_toArray, List.set_cons_zero, List.set_cons_succ])
            refine wpAnyH_ready (rs := [0]) (by kernel_rfl) (by simp) ?_
            refine (AllReadyH.cons (o := { dst := some 78, op := Go.Op.load 31 (Go.Operand.tmp 13), type := 31, pos := "inject.go:52", after := #[], guard := none }) rfl (fun K hK => ?_) AllReadyH.nil)
            go_simp
            refine hK.out _ _ (hHeld) (fun hHeld2 => ?_)
            clear hK K hHeld
            have hHeld := hHeld2
            clear hHeld2
            (try simp only [Act.put, List.setIfInBounds_toArray, List.set_cons_zero, List.set_cons_succ])
            refine wpAnyH_ready (rs := [6]) (by kernel_rfl) (by simp) ?_
            refine (AllReadyH.cons (o := { dst := some 84, op := Go.Op.call { callee := Go.Callee.builtin Go.Builtin.append, args := #[Go.Operand.tmp 78, Go.Operand.tmp 83], argTypes := #[31, 31] }, type := 31, pos := "inject.go:52", after := #[{ on := 0, ground := Go.Ground.data }, { on := 5, ground := Go.Ground.data }], guard := none }) rfl (fun K hK => ?_) AllReadyH.nil)
            refine step_append_run RUN.out ⟨_, _, rfl, rfl, rfl⟩ rfl rfl ?_
            refine hK.out _ _ (ke_low HK3.out (fun _ h => h.2.2.2.2.2.2.2.2) HLOW.out hHeld) (fun hHeld2 => ?_)
            clear hK K hHeld
            have hHeld := hHeld2
            clear hHeld2
            (try simp only [Act.put, List.setIfInBounds_toArray, List.set_cons_zero, List.set_cons_succ])
            refine wpAnyH_ready (rs := [7]) (by kernel_rfl) (by simp) ?_
            refine (AllReadyH.cons (o := { dst := none, op := Go.Op.store 31 (Go.Operand.tmp 13) (Go.Operand.tmp 84), type := 0, pos := "inject.go:52", after := #[{ on := 6, ground := Go.Ground.data }, { on := 6, ground := Go.Ground.chain }, { on := 0, ground := Go.Ground.phase }, { on := 1, ground := Go.Ground.phase }, { on := 2, ground := Go.Ground.phase }, { on := 3, ground := Go.Ground.phase }, { on := 4, ground := Go.Ground.phase }, { on := 5, ground := Go.Ground.phase }, { on := 6, ground := Go.Ground.phase }], guard := none }) rfl (fun K hK => ?_) AllReadyH.nil)
            go_simp
            refine hK.out _ _ (ke_set HK3.out (fun _ h => h.2.2.2.2.2.2.2.2) (by simp) _ _ hHeld) (fun hHeld2 => ?_)
            clear hK K hHeld
            have hHeld := hHeld2
            clear hHeld2
            (try simp only [Act.put, List.setIfInBounds_toArray, List.set_cons_zero, List.set_cons_succ])
            refine wpAnyH_done (by kernel_rfl) ?_ _
            gi_wp2
            change Code.wpIn _ _ _ _ _ _ (w6.setCell ⟨bo, 0, none⟩ (.slice A6 (t.over.length + 1) c6))
            have P5 := P6
            have K5 := K6
            generalize w6.setCell ⟨bo, 0, none⟩ (.slice A6 (t.over.length + 1) c6) = X5 at P5 K5 ⊢
            clear hHeld hHeld0 HK3 ko ko6 fo6 lo6 RUN P6 K6 HLOW ka a0 a1 a2 a3 a4 a5 a6
            have hz5 : z ≤ X5.heap.size := P5.out.zs
            have hg5 : ga < X5.heap.size := by omega
            have ka := P5.out.ab.cell
            have HK4 := Lib.hid (show ∀ x', Ke [ga] z X5 x' → (fun w' => w'.cell? ⟨ba, 0, none⟩ = some (.slice (some ⟨ga, 0, none⟩) nc nc) ∧ Ke [ga] z X5 w') x' from fun x' hx => by
              have e1 := hx.same ba (by omega) (by simp; omega)
              exact ⟨(World.cell?_of_block (a := ⟨ba, 0, none⟩) e1).trans ka, hx⟩)
            have hHeld0 := HK4.out _ (Ke.refl _ _ _)
            refine wpIn_region_held_round (S := fun w' => w'.cell? ⟨ba, 0, none⟩ = some (.slice (some ⟨ga, 0, none⟩) nc nc) ∧ Ke [ga] z X5 w') (by kernel_rfl) (no_defer (by kernel_rfl)) (by rintro ⟨_, _, h⟩; exact h) (ke_drew HK4.out (fun _ h => h.2) hHeld0) (fun hHeld => ?_)
            refine wpAnyH_take (i := 0) (oi := { dst := some 85, op := Go.Op.load 31 (Go.Operand.tmp 11), type := 31, pos := "inject.go:53", after := #[], guard := none }) (v := ?vrun61) rfl (by kernel_rfl) (by kernel_rfl) (by kernel_rfl) (fun _ _ _ h => h) (Or.inl ⟨by rfl, ?yrun61⟩) (by assumption) ?rrun61
            case yrun61 => (intro w hSw; (try dsimp only at hSw); go_simp; (try with_reducible rfl))
            (try simp only [Act.put, List.setIfInBounds_toArray, List.set_cons_zero, List.set_cons_succ])
            refine wpAnyH_take (i := 1) (oi := { dst := some 86, op := Go.Op.move (Go.Operand.tmp 14), type := 3, pos := "inject.go:53", after := #[], guard := none }) (v := ?vrun62) rfl (by kernel_rfl) (by kernel_rfl) (by kernel_rfl) (fun _ _ _ h => h) (Or.inl ⟨by rfl, ?yrun62⟩) (by assumption) ?rrun62
            case yrun62 => (intro w hSw; (try dsimp only at hSw); go_simp; (try with_reducible rfl))
            (try simp only [Act.put, List.setIfInBounds_toArray, List.set_cons_zero, List.set_cons_succ])
            refine wpAnyH_ready (rs := [2]) (by kernel_rfl) (by simp) ?_
            refine (AllReadyH.cons (o := { dst := some 87, op := Go.Op.call { callee := Go.Callee.value (Go.Operand.func 36), args := #[], argTypes := #[] }, type := 28, pos := "inject.go:53", after := #[], guard := none }) rfl (fun K hK => ?_) AllReadyH.nil)
            go_simp
            refine (nocall_any _).mono ?_
            rintro e u9 ⟨rfl, z9⟩
            go_wp2_with fail
            have z9w : Below X5.heap.size X5 u9 := (Below.refl _ _).drew.trans z9
            have Z9W := Lib.hid z9w
            have ar9 := P5.out.ar.below z9w
            obtain ⟨r0, r1, r2, r3, r4, r5, r6⟩ := ar9.c7 hi
            have fr := ar9.free
            have lg9 := Nat.lt_of_lt_of_le hg5 z9w.size
            clear ar9 z9w
            refine hK.out _ _ (ke_call HK4.out (fun _ h => h.2) hz5 z9 hHeld) (fun hHeld2 => ?_)
            clear hK K hHeld
            have hHeld := hHeld2
            clear hHeld2
            (try simp only [Act.put, List.setIfInBounds_toArray, List.set_cons_zero, List.set_cons_succ])
            refine wpAnyH_take (i := 3) (oi := { dst := some 88, op := Go.Op.indexAddr 31 (Go.Operand.tmp 85) (Go.Operand.tmp 86), type := 0, pos := "inject.go:53", after := #[{ on := 0, ground := Go.Ground.data }, { on := 1, ground := Go.Ground.data }, { on := 0, ground := Go.Ground.phase }, { on := 1, ground := Go.Ground.phase }, { on := 2, ground := Go.Ground.phase }], guard := none }) (v := ?vrun63) rfl (by kernel_rfl) (by kernel_rfl) (by kernel_rfl) (fun _ _ _ h => h) (Or.inl ⟨by rfl, ?yrun63⟩) (by assumption) ?rrun63
            case yrun63 => (intro w hSw; (try dsimp only at hSw); go_simp; (try with_reducible rfl))
            (try simp only [Act.put, List.setIfInBounds_toArray, List.set_cons_zero, List.set_cons_succ])
            refine wpAnyH_ready (rs := [4]) (by kernel_rfl) (by simp) ?_
            refine (AllReadyH.cons (o := { dst := none, op := Go.Op.store 28 (Go.Operand.tmp 88) (Go.Operand.tmp 87), type := 0, pos := "inject.go:53", after := #[{ on := 3, ground := Go.Ground.data }, { on := 2, ground := Go.Ground.data }, { on := 2, ground := Go.Ground.chain }, { on := 0, ground := Go.Ground.phase }, { on := 1, ground := Go.Ground.phase }, { on := 2, ground := Go.Ground.phase }], guard := none }) rfl (fun K hK => ?_) AllReadyH.nil)
            go_simp
            refine hK.out _ _ (ke_pk7 HK4.out (fun _ h => h.2) (by simp) _ _ hHeld) (fun hHeld2 => ?_)
            clear hK K hHeld
            have hHeld := hHeld2
            clear hHeld2
            (try simp only [Act.put, List.setIfInBounds_toArray, List.set_cons_zero, List.set_cons_succ])
            refine wpAnyH_done (by kernel_rfl) ?_ _
            gi_wp2
            have hst := HST.out
            rw [if_neg HR.out] at hst
            have h := FIN.out (pk7 u9 ga (i * 7) fno) ((K5.out.trans (keeps_below Z9W.out)).trans (keeps_pk7 u9 ga (i * 7) fno)) (by rw [hst]; have h9 := (P5.out.below Z9W.out).setA HO.out hi fno; rw [List.set_set] at h9; exact h9)
            exact onP_mk h.1 h.2
    · have e1 : (o == -1) = false := by simpa using hop
      obtain ⟨t, ht⟩ : ∃ t, begI s i = t := ⟨_, rfl⟩
      have e0 : t = s := by rw [← ht]; unfold begI; rw [if_neg (by rw [HF0.out]; exact hop)]
      have P : Hid (PB w J nc bc ga bm ba gl bl bo bw bn z (.slice B nw cw) (.int .i64 (nc : Int)) t.m t.a t.over t.left W') := Lib.hid (by rw [e0]; exact P1.out)
      have K := K1
      rw [ht] at FIN HV
      clear e0 ht hop
      gi_wp2
      clear a0 a1 a2 a3 a4 a5 a6 ka P1 K1 e1
      have hzX : z ≤ W'.heap.size := P.out.zs
      have hgX : ga < W'.heap.size := by omega
      have hmX : bm < W'.heap.size := by omega
      have hc7 := P.out.ar.c7 hi
      have ka := P.out.ab.cell
      have AR2 := Lib.hid P.out.ar
      obtain ⟨_, b0, b1, b2, b3⟩ := P.out.cb
      obtain ⟨Am2, cm2, Ao2, co2, k1, k2, _⟩ := P.out.mo
      have RX := Lib.hid k2.rd
      have hml := HV.out.ml
      have hml5 : t.m.length ≤ 500 := by have h1 := sz_lim 1 1 J 0; omega
      have hmp : 0 < t.m.length := by omega
      have hfu := HV.out.uf i
      obtain ⟨f, hf⟩ : ∃ f, t.a.getD i fno = f := ⟨_, rfl⟩
      rw [hf] at hc7 hfu
      obtain ⟨m2, g, hd⟩ : ∃ m2 g, insS 1 1 J 0 t.m f = (m2, g) := ⟨_, _, rfl⟩
      have hl2 : m2.length = t.m.length := by have := insS_len 1 1 J 0 t.m f; rw [hd] at this; exact this
      have HST := Lib.hid (show stepI J t i = if g.res = 0 then ⟨m2, t.a.set i g, t.over, t.left⟩ else ⟨m2, t.a.set i fno, t.over ++ [g], t.left⟩ by
        unfold stepI; rw [hf, hd])
      obtain ⟨km, hkm⟩ : ∃ km, t.m.length = km := ⟨_, rfl⟩
      rw [hkm] at k1 hml5 hl2 hmp
      have KM := Lib.hid k1
      have kmc := k1.cell
      have HGO2 := Lib.hid (show ∀ w' : World, Rd w' Am2 t.m → Calls Try.prog 12 #[cf 1 1 J 0, .slice Am2 km cm2, fv f] w' (RetQ w'.heap.size w' km m2 g) from fun w' hr => istep_n hr hkm hml5 HV.out.um hfu hd)
      have HL2 := Lib.hid hl2
      have HMP := Lib.hid hmp
      have HOV := Lib.hid (show t.over.length ≤ 504 by have := HV.out.ol; omega)
      clear k1 k2 hml hml5 hmp hfu hf hd hl2 hkm
      obtain ⟨o, p, q', v, xx, y, s'⟩ := f
      obtain ⟨a0, a1, a2, a3, a4, a5, a6⟩ := hc7
      simp only at a0 a1 a2 a3 a4 a5 a6
      have HK2 := Lib.hid (show ∀ x', Ke [ga, bm] z W' x' → (fun w' => w'.cell? ⟨ba, 0, none⟩ = some (.slice (some ⟨ga, 0, none⟩) nc nc) ∧ w'.cell? ⟨bc, 0, none⟩ = some (.int .i64 1) ∧ w'.cell? ⟨bc, 1, none⟩ = some (.int .i64 1) ∧ w'.cell? ⟨bc, 2, none⟩ = some (.int .i64 J) ∧ w'.cell? ⟨bc, 3, none⟩ = some (.int .i64 0) ∧ Ke [ga, bm] z W' w') x' from fun x' hx => by
        have e1 := hx.same ba (by omega) (by simp; omega)
        have e2 := hx.same bc (by omega) (by simp; omega)
        exact ⟨(World.cell?_of_block (a := ⟨ba, 0, none⟩) e1).trans ka, (World.cell?_of_block (a := ⟨bc, 0, none⟩) e2).trans b0, (World.cell?_of_block (a := ⟨bc, 1, none⟩) e2).trans b1, (World.cell?_of_block (a := ⟨bc, 2, none⟩) e2).trans b2, (World.cell?_of_block (a := ⟨bc, 3, none⟩) e2).trans b3, hx⟩)
      have hHeld0 := HK2.out _ (Ke.refl _ _ _)
      clear b0 b1 b2 b3
      refine wpIn_region_held_round (S := fun w' => w'.cell? ⟨ba, 0, none⟩ = some (.slice (some ⟨ga, 0, none⟩) nc nc) ∧ w'.cell? ⟨bc, 0, none⟩ = some (.int .i64 1) ∧ w'.cell? ⟨bc, 1, none⟩ = some (.int .i64 1) ∧ w'.cell? ⟨bc, 2, none⟩ = some (.int .i64 J) ∧ w'.cell? ⟨bc, 3, none⟩ = some (.int .i64 0) ∧ Ke [ga, bm] z W' w') (by kernel_rfl) (no_defer (by kernel_rfl)) (by rintro ⟨_, _, h⟩; exact h) (ke_drew HK2.out (fun _ h => h.2.2.2.2.2) hHeld0) (fun hHeld => ?_)
      refine wpAnyH_take (i := 0) (oi := { dst := some 61, op := Go.Op.load 31 (Go.Operand.tmp 11), type := 31, pos := "inject.go:50", after := #[{ on := 12, ground := Go.Ground.gcOnly Go.Departure.lateStores }], guard := none }) (v := ?vrsg1) rfl (by kernel_rfl) (by kernel_rfl) (by kernel_rfl) (fun _ _ _ h => h) (Or.inl ⟨by rfl, ?yrsg1⟩) (by assumption) ?rrsg1
      case yrsg1 => (intro w hSw; (try dsimp only at hSw); go_simp; (try with_reducible rfl))
      (try simp only [Act.put, List.setIfInBounds_toArray, List.set_cons_zero, List.set_cons_succ])
      refine wpAnyH_take (i := 1) (oi := { dst := some 62, op := Go.Op.move (Go.Operand.tmp 14), type := 3, pos := "inject.go:50", after := #[{ on := 12, ground := Go.Ground.gcOnly Go.Departure.lateStores }], guard := none }) (v := ?vrsg2) rfl (by kernel_rfl) (by kernel_rfl) (by kernel_rfl) (fun _ _ _ h => h) (Or.inl ⟨by rfl, ?yrsg2⟩) (by assumption) ?rrsg2
      case yrsg2 => (intro w hSw; (try dsimp only at hSw); go_simp; (try with_reducible rfl))
      (try simp only [Act.put, List.setIfInBounds_toArray, List.set_cons_zero, List.set_cons_succ])
      refine wpAnyH_take (i := 2) (oi := { dst := some 63, op := Go.Op.load 23 (Go.Operand.tmp 9), type := 23, pos := "inject.go:50", after := #[], guard := none }) (v := ?vrsg3) rfl (by kernel_rfl) (by kernel_rfl) (by kernel_rfl) (fun _ _ _ h => h) (Or.inl ⟨by rfl, ?yrsg3⟩) (by assumption) ?rrsg3
      case yrsg3 => (intro w hSw; (try dsimp only at hSw); go_simp; (try with_reducible rfl))
      (try simp only [Act.put, List.setIfInBounds_toArray, List.set_cons_zero, List.set_cons_succ])
      refine wpAnyH_take (i := 4) (oi := { dst := some 65, op := Go.Op.load 31 (Go.Operand.tmp 11), type := 31, pos := "inject.go:50", after := #[], guard := none }) (v := ?vrsg4) rfl (by kernel_rfl) (by kernel_rfl) (by kernel_rfl) (fun _ _ _ h => h) (Or.inl ⟨by rfl, ?yrsg4⟩) (by assumption) ?rrsg4
      case yrsg4 => (intro w hSw; (try dsimp only at hSw); go_simp; (try with_reducible rfl))
      (try simp only [Act.put, List.setIfInBounds_toArray, List.set_cons_zero, List.set_cons_succ])
      refine wpAnyH_take (i := 5) (oi := { dst := some 66, op := Go.Op.move (Go.Operand.tmp 14), type := 3, pos := "inject.go:50", after := #[], guard := none }) (v := ?vrsg5) rfl (by kernel_rfl) (by kernel_rfl) (by kernel_rfl) (fun _ _ _ h => h) (Or.inl ⟨by rfl, ?yrsg5⟩) (by assumption) ?rrsg5
      case yrsg5 => (intro w hSw; (try dsimp only at hSw); go_simp; (try with_reducible rfl))
      (try simp only [Act.put, List.setIfInBounds_toArray, List.set_cons_zero, List.set_cons_succ])
      refine wpAnyH_take (i := 6) (oi := { dst := some 67, op := Go.Op.indexAddr 31 (Go.Operand.tmp 65) (Go.Operand.tmp 66), type := 0, pos := "inject.go:50", after := #[{ on := 4, ground := Go.Ground.data }, { on := 5, ground := Go.Ground.data }], guard := none }) (v := ?vrsg6) rfl (by kernel_rfl) (by kernel_rfl) (by kernel_rfl) (fun _ _ _ h => h) (Or.inl ⟨by rfl, ?yrsg6⟩) (by assumption) ?rrsg6
      case yrsg6 => (intro w hSw; (try dsimp only at hSw); go_simp; (try with_reducible rfl))
      (try simp only [Act.put, List.setIfInBounds_toArray, List.set_cons_zero, List.set_cons_succ])
      refine wpAnyH_ready (rs := [3, 7]) (by kernel_rfl) (by simp) ?_
      refine (AllReadyH.cons (o := { dst := some 64, op := Go.Op.load 25 (Go.Operand.tmp 10), type := 25, pos := "inject.go:50", after := #[], guard := none }) rfl (fun K hK => ?_) (AllReadyH.cons (o := { dst := some 68, op := Go.Op.load 28 (Go.Operand.tmp 67), type := 28, pos := "inject.go:50", after := #[{ on := 6, ground := Go.Ground.data }], guard := none }) rfl (fun K hK => ?_) AllReadyH.nil))
      · go_simp
        refine hK.out _ _ (hHeld) (fun hHeld2 => ?_)
        clear hK K hHeld
        have hHeld := hHeld2
        clear hHeld2
        (try simp only [Act.put, List.setIfInBounds_toArray, List.set_cons_zero, List.set_cons_succ])
        refine wpAnyH_ready (rs := [7]) (by kernel_rfl) (by simp) ?_
        refine (AllReadyH.cons (o := { dst := some 68, op := Go.Op.load 28 (Go.Operand.tmp 67), type := 28, pos := "inject.go:50", after := #[{ on := 6, ground := Go.Ground.data }], guard := none }) rfl (fun K hK => ?_) AllReadyH.nil)
        go_simp
        refine hK.out _ _ (hHeld) (fun hHeld2 => ?_)
        clear hK K hHeld
        have hHeld := hHeld2
        clear hHeld2
        (try simp only [Act.put, List.setIfInBounds_toArray, List.set_cons_zero, List.set_cons_succ])
        refine wpAnyH_ready (rs := [8]) (by kernel_rfl) (by simp) ?_
        refine (AllReadyH.cons (o := { dst := some 69, op := Go.Op.call { callee := Go.Callee.value (Go.Operand.func 12), args := #[Go.Operand.tmp 63, Go.Operand.tmp 64, Go.Operand.tmp 68], argTypes := #[23, 25, 28] }, type := 34, pos := "inject.go:50", after := #[{ on := 2, ground := Go.Ground.data }, { on := 3, ground := Go.Ground.data }, { on := 7, ground := Go.Ground.data }], guard := none }) rfl (fun K hK => ?_) AllReadyH.nil)
        go_simp
        refine (HGO2.out _ (RX.out.below (Below.refl _ _).drew)).mono ?_
        rintro e u3 ⟨A3, c3, rfl, hr3, z3⟩
        go_wp2_with fail
        have z3w : Below W'.heap.size W' u3 := (Below.refl _ _).drew.trans z3
        have Z3W := Lib.hid z3w
        have HR3 := Lib.hid (show Rn W'.heap.size u3 A3 m2 from hr3)
        have ar3 := AR2.out.below z3w
        obtain ⟨r0, r1, r2, r3, r4, r5, r6⟩ := ar3.c7 hi
        have fr := ar3.free
        have lg3 := Nat.lt_of_lt_of_le hgX z3w.size
        have km3 := (show Boxed u3 bm 25 (.slice Am2 km cm2) from (z3w.block _ hmX).trans KM.out).cell
        have fm3 := (show Boxed u3 bm 25 (.slice Am2 km cm2) from (z3w.block _ hmX).trans KM.out).frozen
        have lm3 := Nat.lt_of_lt_of_le hmX z3w.size
        clear ar3 z3w hr3
        refine hK.out _ _ (ke_call HK2.out (fun _ h => h.2.2.2.2.2) hzX z3 hHeld) (fun hHeld2 => ?_)
        clear hK K hHeld
        have hHeld := hHeld2
        clear hHeld2
        (try simp only [Act.put, List.setIfInBounds_toArray, List.set_cons_zero, List.set_cons_succ])
        refine wpAnyH_take (i := 9) (oi := { dst := some 60, op := Go.Op.move (Go.Operand.tmp 69), type := 34, pos := "inject.go:50", after := #[{ on := 8, ground := Go.Ground.data }], guard := none }) (v := ?vrsg7) rfl (by kernel_rfl) (by kernel_rfl) (by kernel_rfl) (fun _ _ _ h => h) (Or.inl ⟨by rfl, ?yrsg7⟩) (by assumption) ?rrsg7
        case yrsg7 => (intro w hSw; (try dsimp only at hSw); go_simp; (try with_reducible rfl))
        (try simp only [Act.put, List.setIfInBounds_toArray, List.set_cons_zero, List.set_cons_succ])
        refine wpAnyH_take (i := 10) (oi := { dst := some 70, op := Go.Op.extract (Go.Operand.tmp 60) 0, type := 25, pos := "inject.go:50", after := #[{ on := 9, ground := Go.Ground.data }], guard := none }) (v := ?vrsg8) rfl (by kernel_rfl) (by kernel_rfl) (by kernel_rfl) (fun _ _ _ h => h) (Or.inl ⟨by rfl, ?yrsg8⟩) (by assumption) ?rrsg8
        case yrsg8 => (intro w hSw; (try dsimp only at hSw); go_simp; (try with_reducible rfl))
        (try simp only [Act.put, List.setIfInBounds_toArray, List.set_cons_zero, List.set_cons_succ])
        refine wpAnyH_take (i := 11) (oi := { dst := some 71, op := Go.Op.extract (Go.Operand.tmp 60) 1, type := 28, pos := "inject.go:50", after := #[{ on := 9, ground := Go.Ground.data }, { on := 12, ground := Go.Ground.gcOnly Go.Departure.lateStores }], guard := none }) (v := ?vrsg9) rfl (by kernel_rfl) (by kernel_rfl) (by kernel_rfl) (fun _ _ _ h => h) (Or.inl ⟨by rfl, ?yrsg9⟩) (by assumption) ?rrsg9
        case yrsg9 => (intro w hSw; (try dsimp only at hSw); go_simp; (try with_reducible rfl))
        (try simp only [Act.put, List.setIfInBounds_toArray, List.set_cons_zero, List.set_cons_succ])
        refine wpAnyH_ready (rs := [12]) (by kernel_rfl) (by simp) ?_
        refine (AllReadyH.cons (o := { dst := none, op := Go.Op.store 25 (Go.Operand.tmp 10) (Go.Operand.tmp 70), type := 0, pos := "inject.go:50", after := #[{ on := 10, ground := Go.Ground.data }, { on := 8, ground := Go.Ground.chain }, { on := 0, ground := Go.Ground.textOnly Go.Departure.lateStores }, { on := 1, ground := Go.Ground.textOnly Go.Departure.lateStores }, { on := 2, ground := Go.Ground.phase }, { on := 3, ground := Go.Ground.phase }, { on := 4, ground := Go.Ground.phase }, { on := 5, ground := Go.Ground.phase }, { on := 6, ground := Go.Ground.phase }, { on := 7, ground := Go.Ground.phase }, { on := 8, ground := Go.Ground.phase }, { on := 9, ground := Go.Ground.phase }, { on := 10, ground := Go.Ground.phase }, { on := 11, ground := Go.Ground.textOnly Go.Departure.lateStores }], guard := none }) rfl (fun K hK => ?_) AllReadyH.nil)
        go_simp
        refine hK.out _ _ (ke_set HK2.out (fun _ h => h.2.2.2.2.2) (by simp) _ _ hHeld) (fun hHeld2 => ?_)
        clear hK K hHeld
        have hHeld := hHeld2
        clear hHeld2
        (try simp only [Act.put, List.setIfInBounds_toArray, List.set_cons_zero, List.set_cons_succ])
        refine wpAnyH_take (i := 13) (oi := { dst := some 72, op := Go.Op.indexAddr 31 (Go.Operand.tmp 61) (Go.Operand.tmp 62), type := 0, pos := "inject.go:50", after := #[{ on := 0, ground := Go.Ground.data }, { on := 1, ground := Go.Ground.data }, { on := 0, ground := Go.Ground.phase }, { on := 1, ground := Go.Ground.phase }, { on := 2, ground := Go.Ground.phase }, { on := 3, ground := Go.Ground.phase }, { on := 4, ground := Go.Ground.phase }, { on := 5, ground := Go.Ground.phase }, { on := 6, ground := Go.Ground.phase }, { on := 7, ground := Go.Ground.phase }, { on := 8, ground := Go.Ground.phase }, { on := 9, ground := Go.Ground.phase }, { on := 10, ground := Go.Ground.phase }, { on := 11, ground := Go.Ground.phase }, { on := 12, ground := Go.Ground.phase }], guard := none }) (v := ?vrsg10) rfl (by kernel_rfl) (by kernel_rfl) (by kernel_rfl) (fun _ _ _ h => h) (Or.inl ⟨by rfl, ?yrsg10⟩) (by assumption) ?rrsg10
        case yrsg10 => (intro w hSw; (try dsimp only at hSw); go_simp; (try with_reducible rfl))
        (try simp only [Act.put, List.setIfInBounds_toArray, List.set_cons_zero, List.set_cons_succ])
        refine wpAnyH_ready (rs := [14]) (by kernel_rfl) (by simp) ?_
        refine (AllReadyH.cons (o := { dst := none, op := Go.Op.store 28 (Go.Operand.tmp 72) (Go.Operand.tmp 71), type := 0, pos := "inject.go:50", after := #[{ on := 13, ground := Go.Ground.data }, { on := 11, ground := Go.Ground.data }, { on := 12, ground := Go.Ground.chain }, { on := 0, ground := Go.Ground.phase }, { on := 1, ground := Go.Ground.phase }, { on := 2, ground := Go.Ground.phase }, { on := 3, ground := Go.Ground.phase }, { on := 4, ground := Go.Ground.phase }, { on := 5, ground := Go.Ground.phase }, { on := 6, ground := Go.Ground.phase }, { on := 7, ground := Go.Ground.phase }, { on := 8, ground := Go.Ground.phase }, { on := 9, ground := Go.Ground.phase }, { on := 10, ground := Go.Ground.phase }, { on := 11, ground := Go.Ground.phase }, { on := 12, ground := Go.Ground.phase }], guard := none }) rfl (fun K hK => ?_) AllReadyH.nil)
        go_simp
        refine hK.out _ _ (ke_pk7 HK2.out (fun _ h => h.2.2.2.2.2) (by simp) _ _ hHeld) (fun hHeld2 => ?_)
        clear hK K hHeld
        have hHeld := hHeld2
        clear hHeld2
        (try simp only [Act.put, List.setIfInBounds_toArray, List.set_cons_zero, List.set_cons_succ])
        refine wpAnyH_done (by kernel_rfl) ?_ _
        gi_wp2_with fail
        refine ⟨trivial, (fun h => by cases h), ?_⟩
        change CallsIn _ _ _ _ _ (pk7 (u3.setCell ⟨bm, 0, none⟩ (.slice A3 km c3)) ga (i * 7) g) _
        have p3 := (P.out.setM (c' := c3) HO.out Z3W.out HR3.out (by rw [HL2.out]; exact HMP.out)).setA HO.out hi g
        rw [HL2.out] at p3
        have P3 := Lib.hid p3
        have K3 := Lib.hid (((K.out.trans (keeps_below Z3W.out)).trans (KeepsOthers.setCell u3 ⟨bm, 0, none⟩ (.slice A3 km c3))).trans (keeps_pk7 (u3.setCell ⟨bm, 0, none⟩ (.slice A3 km c3)) ga (i * 7) g))
        clear p3
        generalize pk7 (u3.setCell ⟨bm, 0, none⟩ (.slice A3 km c3)) ga (i * 7) g = X3 at P3 K3 ⊢
        clear hHeld hHeld0 HK2 Z3W HR3 r0 r1 r2 r3 r4 r5 r6 fr lg3 km3 fm3 lm3 z3 RX KM kmc HGO2 AR2 a0 a1 a2 a3 a4 a5 a6 ka P K
        have hlt2 := Lib.hid (show i < t.a.length by rw [HV.out.al]; exact hi)
        by_cases hr : g.res = 0
        · have hb : (g.res != 0) = false := by simp [hr]
          refine (CallsIn.inRound _ (callsIn_wide.2 (Tells.of (over_any g _) (v' := .bool false) (by rw [hb])))).mono ?_
          rintro _ X4 ⟨rfl, z4⟩
          have P4 := Lib.hid (P3.out.below z4)
          have K4 := Lib.hid (K3.out.trans (keeps_below z4))
          have HR := Lib.hid hr
          clear z4 hb hr P3 K3
          gi_wp2
          have hst := HST.out
          rw [if_pos HR.out] at hst
          have h := FIN.out X4 K4.out (by rw [hst]; exact P4.out)
          exact onP_mk h.1 h.2
        · have hb : (g.res != 0) = true := by simp [hr]
          refine (CallsIn.inRound _ (callsIn_wide.2 (Tells.of (over_any g _) (v' := .bool true) (by rw [hb])))).mono ?_
          rintro _ X4 ⟨rfl, z4⟩
          have P4 := Lib.hid (P3.out.below z4)
          have K4 := Lib.hid (K3.out.trans (keeps_below z4))
          have HR := Lib.hid hr
          clear z4 hb hr P3 K3
          have hz4 : z ≤ X4.heap.size := P4.out.zs
          have hlo : bo < X4.heap.size := by omega
          have ka := P4.out.ab.cell
          have hc7 := P4.out.ar.c7 hi
          rw [getD_set_eq hlt2.out] at hc7
          obtain ⟨a0, a1, a2, a3, a4, a5, a6⟩ := hc7
          obtain ⟨Am5, cm5, Ao5, co5, k1, k2, k3, k4, k6⟩ := P4.out.drew.mo
          have ko : X4.cell? ⟨bo, 0, none⟩ = some (.slice Ao5 t.over.length co5) := k3.cell
          obtain ⟨A6, c6, w6, hrun, hown, hgr, hb6, hblk⟩ := app_one k4 g (by have := HOV.out; omega) P4.out.drew.zs
          have HLOW := Lib.hid (show Below z (X4.drew.alloc (.cells #[.int .i64 g.op, .int .i64 g.pc, .int .i64 g.who, .int .u64 g.val, .int .u64 g.x, .int .u64 g.y, .int .i64 g.res] 28)) w6 from
            ⟨hgr.os, hgr.tape, hgr.output, hgr.size, fun k hk => hgr.block k (by simp; omega) (fun e => by have := (World.ownsRow.lt k4 k e.symm).1; omega)⟩)
          have P6 := Lib.hid (P4.out.drew.setO HO.out k1 k2 k3 k6 (by rw [HL2.out]; exact HMP.out) hown hgr hblk hb6)
          have x6 : Boxed w6 bo 31 (.slice Ao5 t.over.length co5) := (hb6.block bo (by omega)).trans k3
          have ko6 := x6.cell
          have fo6 := x6.frozen
          have lo6 := x6.lt
          have K6 := Lib.hid ((((K4.out.trans (keeps_below (Below.refl _ _).drew)).trans (KeepsOthers.alloc X4.drew (.cells #[.int .i64 g.op, .int .i64 g.pc, .int .i64 g.who, .int .u64 g.val, .int .u64 g.x, .int .u64 g.y, .int .i64 g.res] 28))).trans (KeepsOthers.of_grownBy hgr (fun j o e hj => by
            obtain ⟨o', ho', hc'⟩ := (k4.alloc (.cells #[.int .i64 g.op, .int .i64 g.pc, .int .i64 g.who, .int .u64 g.val, .int .u64 g.x, .int .u64 g.y, .int .i64 g.res] 28)).cells_own e
            rw [hj] at ho'; cases ho'; exact hc'))).trans (KeepsOthers.setCell w6 ⟨bo, 0, none⟩ (.slice A6 (t.over.length + 1) c6)))
          have RUN := Lib.hid hrun
          clear k1 k2 k3 k4 k6 hrun hown hgr hb6 hblk x6
          have HK3 := Lib.hid (show ∀ x', Ke [bo] z X4 x' → (fun w' => w'.cell? ⟨ba, 0, none⟩ = some (.slice (some ⟨ga, 0, none⟩) nc nc) ∧ w'.cell? ⟨ga, i * 7, none⟩ = some (.int .i64 g.op) ∧ w'.cell? ⟨ga, i * 7 + 1, none⟩ = some (.int .i64 g.pc) ∧ w'.cell? ⟨ga, i * 7 + 2, none⟩ = some (.int .i64 g.who) ∧ w'.cell? ⟨ga, i * 7 + 3, none⟩ = some (.int .u64 g.val) ∧ w'.cell? ⟨ga, i * 7 + 4, none⟩ = some (.int .u64 g.x) ∧ w'.cell? ⟨ga, i * 7 + 5, none⟩ = some (.int .u64 g.y) ∧ w'.cell? ⟨ga, i * 7 + 6, none⟩ = some (.int .i64 g.res) ∧ Ke [bo] z X4 w') x' from fun x' hx => by
            have e1 := hx.same ba (by omega) (by simp; omega)
            have e2 := hx.same ga (by omega) (by simp; omega)
            exact ⟨(World.cell?_of_block (a := ⟨ba, 0, none⟩) e1).trans ka, (World.cell?_of_block (a := ⟨ga, i * 7, none⟩) e2).trans a0, (World.cell?_of_block (a := ⟨ga, i * 7 + 1, none⟩) e2).trans a1, (World.cell?_of_block (a := ⟨ga, i * 7 + 2, none⟩) e2).trans a2, (World.cell?_of_block (a := ⟨ga, i * 7 + 3, none⟩) e2).trans a3, (World.cell?_of_block (a := ⟨ga, i * 7 + 4, none⟩) e2).trans a4, (World.cell?_of_block (a := ⟨ga, i * 7 + 5, none⟩) e2).trans a5, (World.cell?_of_block (a := ⟨ga, i * 7 + 6, none⟩) e2).trans a6, hx⟩)
          have hHeld0 := HK3.out _ (Ke.refl _ _ _)
          gi_wp2
          refine wpIn_region_held_round (S := fun w' => w'.cell? ⟨ba, 0, none⟩ = some (.slice (some ⟨ga, 0, none⟩) nc nc) ∧ w'.cell? ⟨ga, i * 7, none⟩ = some (.int .i64 g.op) ∧ w'.cell? ⟨ga, i * 7 + 1, none⟩ = some (.int .i64 g.pc) ∧ w'.cell? ⟨ga, i * 7 + 2, none⟩ = some (.int .i64 g.who) ∧ w'.cell? ⟨ga, i * 7 + 3, none⟩ = some (.int .u64 g.val) ∧ w'.cell? ⟨ga, i * 7 + 4, none⟩ = some (.int .u64 g.x) ∧ w'.cell? ⟨ga, i * 7 + 5, none⟩ = some (.int .u64 g.y) ∧ w'.cell? ⟨ga, i * 7 + 6, none⟩ = some (.int .i64 g.res) ∧ Ke [bo] z X4 w') (by kernel_rfl) (no_defer (by kernel_rfl)) (by rintro ⟨_, _, h⟩; exact h) (ke_drew HK3.out (fun _ h => h.2.2.2.2.2.2.2.2) hHeld0) (fun hHeld => ?_)
          refine wpAnyH_take (i := 1) (oi := { dst := some 79, op := Go.Op.load 31 (Go.Operand.tmp 11), type := 31, pos := "inject.go:52", after := #[], guard := none }) (v := ?vrtn71) rfl (by kernel_rfl) (by kernel_rfl) (by kernel_rfl) (fun _ _ _ h => h) (Or.inl ⟨by rfl, ?yrtn71⟩) (by assumption) ?rrtn71
          case yrtn71 => (intro w hSw; (try dsimp only at hSw); go_simp; (try with_reducible rfl))
          (try simp only [Act.put, List.setIfInBounds_toArray, List.set_cons_zero, List.set_cons_succ])
          refine wpAnyH_take (i := 2) (oi := { dst := some 80, op := Go.Op.move (Go.Operand.tmp 14), type := 3, pos := "inject.go:52", after := #[], guard := none }) (v := ?vrtn72) rfl (by kernel_rfl) (by kernel_rfl) (by kernel_rfl) (fun _ _ _ h => h) (Or.inl ⟨by rfl, ?yrtn72⟩) (by assumption) ?rrtn72
          case yrtn72 => (intro w hSw; (try dsimp only at hSw); go_simp; (try with_reducible rfl))
          (try simp only [Act.put, List.setIfInBounds_toArray, List.set_cons_zero, List.set_cons_succ])
          refine wpAnyH_take (i := 3) (oi := { dst := some 81, op := Go.Op.indexAddr 31 (Go.Operand.tmp 79) (Go.Operand.tmp 80), type := 0, pos := "inject.go:52", after := #[{ on := 1, ground := Go.Ground.data }, { on := 2, ground := Go.Ground.data }], guard := none }) (v := ?vrtn73) rfl (by kernel_rfl) (by kernel_rfl) (by kernel_rfl) (fun _ _ _ h => h) (Or.inl ⟨by rfl, ?yrtn73⟩) (by assumption) ?rrtn73
          case yrtn73 => (intro w hSw; (try dsimp only at hSw); go_simp; (try with_reducible rfl))
          (try simp only [Act.put, List.setIfInBounds_toArray, List.set_cons_zero, List.set_cons_succ])
          refine wpAnyH_take (i := 4) (oi := { dst := some 82, op := Go.Op.load 28 (Go.Operand.tmp 81), type := 28, pos := "inject.go:52", after := #[{ on := 3, ground := Go.Ground.data }], guard := none }) (v := ?vrtn74) rfl (by kernel_rfl) (by kernel_rfl) (by kernel_rfl) (fun _ _ _ h => h) (Or.inl ⟨by rfl, ?yrtn74⟩) (by assumption) ?rrtn74
          case yrtn74 => (intro w hSw; (try dsimp only at hSw); go_simp; (try with_reducible rfl))
          (try simp only [Act.put, List.setIfInBounds_toArray, List.set_cons_zero, List.set_cons_succ])
          refine wpAnyH_ready (rs := [0, 5]) (by kernel_rfl) (by simp) ?_
          refine (AllReadyH.cons (o := { dst := some 78, op := Go.Op.load 31 (Go.Operand.tmp 13), type := 31, pos := "inject.go:52", after := #[], guard := none }) rfl (fun K hK => ?_) (AllReadyH.cons (o := { dst := some 83, op := Go.Op.buildSlice 31 1 #[(0, Go.Operand.tmp 82)], type := 31, pos := "inject.go:52", after := #[{ on := 4, ground := Go.Ground.data }], guard := none }) rfl (fun K hK => ?_) AllReadyH.nil))
          · go_simp
            refine hK.out _ _ (hHeld) (fun hHeld2 => ?_)
            clear hK K hHeld
            have hHeld := hHeld2
            clear hHeld2
            (try simp only [Act.put, List.setIfInBounds_toArray, List.set_cons_zero, List.set_cons_succ])
            refine wpAnyH_ready (rs := [5]) (by kernel_rfl) (by simp) ?_
            refine (AllReadyH.cons (o := { dst := some 83, op := Go.Op.buildSlice 31 1 #[(0, Go.Operand.tmp 82)], type := 31, pos := "inject.go:52", after := #[{ on := 4, ground := Go.Ground.data }], guard := none }) rfl (fun K hK => ?_) AllReadyH.nil)
            go_simp
            refine hK.out _ _ (ke_alloc HK3.out (fun _ h => h.2.2.2.2.2.2.2.2) hz4 _ hHeld) (fun hHeld2 => ?_)
            clear hK K hHeld
            have hHeld := hHeld2
            clear hHeld2
            (try simp only [Act.put, List.setIfInBounds_toArray, List.set_cons_zero, List.set_cons_succ])
            refine wpAnyH_ready (rs := [6]) (by kernel_rfl) (by simp) ?_
            refine (AllReadyH.cons (o := { dst := some 84, op := Go.Op.call { callee := Go.Callee.builtin Go.Builtin.append, args := #[Go.Operand.tmp 78, Go.Operand.tmp 83], argTypes := #[31, 31] }, type := 31, pos := "inject.go:52", after := #[{ on := 0, ground := Go.Ground.data }, { on := 5, ground := Go.Ground.data }], guard := none }) rfl (fun K hK => ?_) AllReadyH.nil)
            refine step_append_run RUN.out ⟨_, _, rfl, rfl, rfl⟩ rfl rfl ?_
            refine hK.out _ _ (ke_low HK3.out (fun _ h => h.2.2.2.2.2.2.2.2) HLOW.out hHeld) (fun hHeld2 => ?_)
            clear hK K hHeld
            have hHeld := hHeld2
            clear hHeld2
            (try simp only [Act.put, List.setIfInBounds_toArray, List.set_cons_zero, List.set_cons_succ])
            refine wpAnyH_ready (rs := [7]) (by kernel_rfl) (by simp) ?_
            refine (AllReadyH.cons (o := { dst := none, op := Go.Op.store 31 (Go.Operand.tmp 13) (Go.Operand.tmp 84), type := 0, pos := "inject.go:52", after := #[{ on := 6, ground := Go.Ground.data }, { on := 6, ground := Go.Ground.chain }, { on := 0, ground := Go.Ground.phase }, { on := 1, ground := Go.Ground.phase }, { on := 2, ground := Go.Ground.phase }, { on := 3, ground := Go.Ground.phase }, { on := 4, ground := Go.Ground.phase }, { on := 5, ground := Go.Ground.phase }, { on := 6, ground := Go.Ground.phase }], guard := none }) rfl (fun K hK => ?_) AllReadyH.nil)
            go_simp
            refine hK.out _ _ (ke_set HK3.out (fun _ h => h.2.2.2.2.2.2.2.2) (by simp) _ _ hHeld) (fun hHeld2 => ?_)
            clear hK K hHeld
            have hHeld := hHeld2
            clear hHeld2
            (try simp only [Act.put, List.setIfInBounds_toArray, List.set_cons_zero, List.set_cons_succ])
            refine wpAnyH_done (by kernel_rfl) ?_ _
            gi_wp2
            change Code.wpIn _ _ _ _ _ _ (w6.setCell ⟨bo, 0, none⟩ (.slice A6 (t.over.length + 1) c6))
            have P5 := P6
            have K5 := K6
            generalize w6.setCell ⟨bo, 0, none⟩ (.slice A6 (t.over.length + 1) c6) = X5 at P5 K5 ⊢
            clear hHeld hHeld0 HK3 ko ko6 fo6 lo6 RUN P6 K6 HLOW ka a0 a1 a2 a3 a4 a5 a6
            have hz5 : z ≤ X5.heap.size := P5.out.zs
            have hg5 : ga < X5.heap.size := by omega
            have ka := P5.out.ab.cell
            have HK4 := Lib.hid (show ∀ x', Ke [ga] z X5 x' → (fun w' => w'.cell? ⟨ba, 0, none⟩ = some (.slice (some ⟨ga, 0, none⟩) nc nc) ∧ Ke [ga] z X5 w') x' from fun x' hx => by
              have e1 := hx.same ba (by omega) (by simp; omega)
              exact ⟨(World.cell?_of_block (a := ⟨ba, 0, none⟩) e1).trans ka, hx⟩)
            have hHeld0 := HK4.out _ (Ke.refl _ _ _)
            refine wpIn_region_held_round (S := fun w' => w'.cell? ⟨ba, 0, none⟩ = some (.slice (some ⟨ga, 0, none⟩) nc nc) ∧ Ke [ga] z X5 w') (by kernel_rfl) (no_defer (by kernel_rfl)) (by rintro ⟨_, _, h⟩; exact h) (ke_drew HK4.out (fun _ h => h.2) hHeld0) (fun hHeld => ?_)
            refine wpAnyH_take (i := 0) (oi := { dst := some 85, op := Go.Op.load 31 (Go.Operand.tmp 11), type := 31, pos := "inject.go:53", after := #[], guard := none }) (v := ?vrun81) rfl (by kernel_rfl) (by kernel_rfl) (by kernel_rfl) (fun _ _ _ h => h) (Or.inl ⟨by rfl, ?yrun81⟩) (by assumption) ?rrun81
            case yrun81 => (intro w hSw; (try dsimp only at hSw); go_simp; (try with_reducible rfl))
            (try simp only [Act.put, List.setIfInBounds_toArray, List.set_cons_zero, List.set_cons_succ])
            refine wpAnyH_take (i := 1) (oi := { dst := some 86, op := Go.Op.move (Go.Operand.tmp 14), type := 3, pos := "inject.go:53", after := #[], guard := none }) (v := ?vrun82) rfl (by kernel_rfl) (by kernel_rfl) (by kernel_rfl) (fun _ _ _ h => h) (Or.inl ⟨by rfl, ?yrun82⟩) (by assumption) ?rrun82
            case yrun82 => (intro w hSw; (try dsimp only at hSw); go_simp; (try with_reducible rfl))
            (try simp only [Act.put, List.setIfInBounds_toArray, List.set_cons_zero, List.set_cons_succ])
            refine wpAnyH_ready (rs := [2]) (by kernel_rfl) (by simp) ?_
            refine (AllReadyH.cons (o := { dst := some 87, op := Go.Op.call { callee := Go.Callee.value (Go.Operand.func 36), args := #[], argTypes := #[] }, type := 28, pos := "inject.go:53", after := #[], guard := none }) rfl (fun K hK => ?_) AllReadyH.nil)
            go_simp
            refine (nocall_any _).mono ?_
            rintro e u9 ⟨rfl, z9⟩
            go_wp2_with fail
            have z9w : Below X5.heap.size X5 u9 := (Below.refl _ _).drew.trans z9
            have Z9W := Lib.hid z9w
            have ar9 := P5.out.ar.below z9w
            obtain ⟨r0, r1, r2, r3, r4, r5, r6⟩ := ar9.c7 hi
            have fr := ar9.free
            have lg9 := Nat.lt_of_lt_of_le hg5 z9w.size
            clear ar9 z9w
            refine hK.out _ _ (ke_call HK4.out (fun _ h => h.2) hz5 z9 hHeld) (fun hHeld2 => ?_)
            clear hK K hHeld
            have hHeld := hHeld2
            clear hHeld2
            (try simp only [Act.put, List.setIfInBounds_toArray, List.set_cons_zero, List.set_cons_succ])
            refine wpAnyH_take (i := 3) (oi := { dst := some 88, op := Go.Op.indexAddr 31 (Go.Operand.tmp 85) (Go.Operand.tmp 86), type := 0, pos := "inject.go:53", after := #[{ on := 0, ground := Go.Ground.data }, { on := 1, ground := Go.Ground.data }, { on := 0, ground := Go.Ground.phase }, { on := 1, ground := Go.Ground.phase }, { on := 2, ground := Go.Ground.phase }], guard := none }) (v := ?vrun83) rfl (by kernel_rfl) (by kernel_rfl) (by kernel_rfl) (fun _ _ _ h => h) (Or.inl ⟨by rfl, ?yrun83⟩) (by assumption) ?rrun83
            case yrun83 => (intro w hSw; (try dsimp only at hSw); go_simp; (try with_reducible rfl))
            (try simp only [Act.put, List.setIfInBounds_toArray, List.set_cons_zero, List.set_cons_succ])
            refine wpAnyH_ready (rs := [4]) (by kernel_rfl) (by simp) ?_
            refine (AllReadyH.cons (o := { dst := none, op := Go.Op.store 28 (Go.Operand.tmp 88) (Go.Operand.tmp 87), type := 0, pos := "inject.go:53", after := #[{ on := 3, ground := Go.Ground.data }, { on := 2, ground := Go.Ground.data }, { on := 2, ground := Go.Ground.chain }, { on := 0, ground := Go.Ground.phase }, { on := 1, ground := Go.Ground.phase }, { on := 2, ground := Go.Ground.phase }], guard := none }) rfl (fun K hK => ?_) AllReadyH.nil)
            go_simp
            refine hK.out _ _ (ke_pk7 HK4.out (fun _ h => h.2) (by simp) _ _ hHeld) (fun hHeld2 => ?_)
            clear hK K hHeld
            have hHeld := hHeld2
            clear hHeld2
            (try simp only [Act.put, List.setIfInBounds_toArray, List.set_cons_zero, List.set_cons_succ])
            refine wpAnyH_done (by kernel_rfl) ?_ _
            gi_wp2
            have hst := HST.out
            rw [if_neg HR.out] at hst
            have h := FIN.out (pk7 u9 ga (i * 7) fno) ((K5.out.trans (keeps_below Z9W.out)).trans (keeps_pk7 u9 ga (i * 7) fno)) (by rw [hst]; have h9 := (P5.out.below Z9W.out).setA HO.out hi fno; rw [List.set_set] at h9; exact h9)
            exact onP_mk h.1 h.2
          · go_simp
            refine hK.out _ _ (ke_alloc HK3.out (fun _ h => h.2.2.2.2.2.2.2.2) hz4 _ hHeld) (fun hHeld2 => ?_)
            clear hK K hHeld
            have hHeld := hHeld2
            clear hHeld2
            (try simp only [Act.put, List.setIfInBounds_toArray, List.set_cons_zero, List.set_cons_succ])
            refine wpAnyH_ready (rs := [0]) (by kernel_rfl) (by simp) ?_
            refine (AllReadyH.cons (o := { dst := some 78, op := Go.Op.load 31 (Go.Operand.tmp 13), type := 31, pos := "inject.go:52", after := #[], guard := none }) rfl (fun K hK => ?_) AllReadyH.nil)
            go_simp
            refine hK.out _ _ (hHeld) (fun hHeld2 => ?_)
            clear hK K hHeld
            have hHeld := hHeld2
            clear hHeld2
            (try simp only [Act.put, List.setIfInBounds_toArray, List.set_cons_zero, List.set_cons_succ])
            refine wpAnyH_ready (rs := [6]) (by kernel_rfl) (by simp) ?_
            refine (AllReadyH.cons (o := { dst := some 84, op := Go.Op.call { callee := Go.Callee.builtin Go.Builtin.append, args := #[Go.Operand.tmp 78, Go.Operand.tmp 83], argTypes := #[31, 31] }, type := 31, pos := "inject.go:52", after := #[{ on := 0, ground := Go.Ground.data }, { on := 5, ground := Go.Ground.data }], guard := none }) rfl (fun K hK => ?_) AllReadyH.nil)
            refine step_append_run RUN.out ⟨_, _, rfl, rfl, rfl⟩ rfl rfl ?_
            refine hK.out _ _ (ke_low HK3.out (fun _ h => h.2.2.2.2.2.2.2.2) HLOW.out hHeld) (fun hHeld2 => ?_)
            clear hK K hHeld
            have hHeld := hHeld2
            clear hHeld2
            (try simp only [Act.put, List.setIfInBounds_toArray, List.set_cons_zero, List.set_cons_succ])
            refine wpAnyH_ready (rs := [7]) (by kernel_rfl) (by simp) ?_
            refine (AllReadyH.cons (o := { dst := none, op := Go.Op.store 31 (Go.Operand.tmp 13) (Go.Operand.tmp 84), type := 0, pos := "inject.go:52", after := #[{ on := 6, ground := Go.Ground.data }, { on := 6, ground := Go.Ground.chain }, { on := 0, ground := Go.Ground.phase }, { on := 1, ground := Go.Ground.phase }, { on := 2, ground := Go.Ground.phase }, { on := 3, ground := Go.Ground.phase }, { on := 4, ground := Go.Ground.phase }, { on := 5, ground := Go.Ground.phase }, { on := 6, ground := Go.Ground.phase }], guard := none }) rfl (fun K hK => ?_) AllReadyH.nil)
            go_simp
            refine hK.out _ _ (ke_set HK3.out (fun _ h => h.2.2.2.2.2.2.2.2) (by simp) _ _ hHeld) (fun hHeld2 => ?_)
            clear hK K hHeld
            have hHeld := hHeld2
            clear hHeld2
            (try simp only [Act.put, List.setIfInBounds_toArray, List.set_cons_zero, List.set_cons_succ])
            refine wpAnyH_done (by kernel_rfl) ?_ _
            gi_wp2
            change Code.wpIn _ _ _ _ _ _ (w6.setCell ⟨bo, 0, none⟩ (.slice A6 (t.over.length + 1) c6))
            have P5 := P6
            have K5 := K6
            generalize w6.setCell ⟨bo, 0, none⟩ (.slice A6 (t.over.length + 1) c6) = X5 at P5 K5 ⊢
            clear hHeld hHeld0 HK3 ko ko6 fo6 lo6 RUN P6 K6 HLOW ka a0 a1 a2 a3 a4 a5 a6
            have hz5 : z ≤ X5.heap.size := P5.out.zs
            have hg5 : ga < X5.heap.size := by omega
            have ka := P5.out.ab.cell
            have HK4 := Lib.hid (show ∀ x', Ke [ga] z X5 x' → (fun w' => w'.cell? ⟨ba, 0, none⟩ = some (.slice (some ⟨ga, 0, none⟩) nc nc) ∧ Ke [ga] z X5 w') x' from fun x' hx => by
              have e1 := hx.same ba (by omega) (by simp; omega)
              exact ⟨(World.cell?_of_block (a := ⟨ba, 0, none⟩) e1).trans ka, hx⟩)
            have hHeld0 := HK4.out _ (Ke.refl _ _ _)
            refine wpIn_region_held_round (S := fun w' => w'.cell? ⟨ba, 0, none⟩ = some (.slice (some ⟨ga, 0, none⟩) nc nc) ∧ Ke [ga] z X5 w') (by kernel_rfl) (no_defer (by kernel_rfl)) (by rintro ⟨_, _, h⟩; exact h) (ke_drew HK4.out (fun _ h => h.2) hHeld0) (fun hHeld => ?_)
            refine wpAnyH_take (i := 0) (oi := { dst := some 85, op := Go.Op.load 31 (Go.Operand.tmp 11), type := 31, pos := "inject.go:53", after := #[], guard := none }) (v := ?vrun91) rfl (by kernel_rfl) (by kernel_rfl) (by kernel_rfl) (fun _ _ _ h => h) (Or.inl ⟨by rfl, ?yrun91⟩) (by assumption) ?rrun91
            case yrun91 => (intro w hSw; (try dsimp only at hSw); go_simp; (try with_reducible rfl))
            (try simp only [Act.put, List.setIfInBounds_toArray, List.set_cons_zero, List.set_cons_succ])
            refine wpAnyH_take (i := 1) (oi := { dst := some 86, op := Go.Op.move (Go.Operand.tmp 14), type := 3, pos := "inject.go:53", after := #[], guard := none }) (v := ?vrun92) rfl (by kernel_rfl) (by kernel_rfl) (by kernel_rfl) (fun _ _ _ h => h) (Or.inl ⟨by rfl, ?yrun92⟩) (by assumption) ?rrun92
            case yrun92 => (intro w hSw; (try dsimp only at hSw); go_simp; (try with_reducible rfl))
            (try simp only [Act.put, List.setIfInBounds_toArray, List.set_cons_zero, List.set_cons_succ])
            refine wpAnyH_ready (rs := [2]) (by kernel_rfl) (by simp) ?_
            refine (AllReadyH.cons (o := { dst := some 87, op := Go.Op.call { callee := Go.Callee.value (Go.Operand.func 36), args := #[], argTypes := #[] }, type := 28, pos := "inject.go:53", after := #[], guard := none }) rfl (fun K hK => ?_) AllReadyH.nil)
            go_simp
            refine (nocall_any _).mono ?_
            rintro e u9 ⟨rfl, z9⟩
            go_wp2_with fail
            have z9w : Below X5.heap.size X5 u9 := (Below.refl _ _).drew.trans z9
            have Z9W := Lib.hid z9w
            have ar9 := P5.out.ar.below z9w
            obtain ⟨r0, r1, r2, r3, r4, r5, r6⟩ := ar9.c7 hi
            have fr := ar9.free
            have lg9 := Nat.lt_of_lt_of_le hg5 z9w.size
            clear ar9 z9w
            refine hK.out _ _ (ke_call HK4.out (fun _ h => h.2) hz5 z9 hHeld) (fun hHeld2 => ?_)
            clear hK K hHeld
            have hHeld := hHeld2
            clear hHeld2
            (try simp only [Act.put, List.setIfInBounds_toArray, List.set_cons_zero, List.set_cons_succ])
            refine wpAnyH_take (i := 3) (oi := { dst := some 88, op := Go.Op.indexAddr 31 (Go.Operand.tmp 85) (Go.Operand.tmp 86), type := 0, pos := "inject.go:53", after := #[{ on := 0, ground := Go.Ground.data }, { on := 1, ground := Go.Ground.data }, { on := 0, ground := Go.Ground.phase }, { on := 1, ground := Go.Ground.phase }, { on := 2, ground := Go.Ground.phase }], guard := none }) (v := ?vrun93) rfl (by kernel_rfl) (by kernel_rfl) (by kernel_rfl) (fun _ _ _ h => h) (Or.inl ⟨by rfl, ?yrun93⟩) (by assumption) ?rrun93
            case yrun93 => (intro w hSw; (try dsimp only at hSw); go_simp; (try with_reducible rfl))
            (try simp only [Act.put, List.setIfInBounds_toArray, List.set_cons_zero, List.set_cons_succ])
            refine wpAnyH_ready (rs := [4]) (by kernel_rfl) (by simp) ?_
            refine (AllReadyH.cons (o := { dst := none, op := Go.Op.store 28 (Go.Operand.tmp 88) (Go.Operand.tmp 87), type := 0, pos := "inject.go:53", after := #[{ on := 3, ground := Go.Ground.data }, { on := 2, ground := Go.Ground.data }, { on := 2, ground := Go.Ground.chain }, { on := 0, ground := Go.Ground.phase }, { on := 1, ground := Go.Ground.phase }, { on := 2, ground := Go.Ground.phase }], guard := none }) rfl (fun K hK => ?_) AllReadyH.nil)
            go_simp
            refine hK.out _ _ (ke_pk7 HK4.out (fun _ h => h.2) (by simp) _ _ hHeld) (fun hHeld2 => ?_)
            clear hK K hHeld
            have hHeld := hHeld2
            clear hHeld2
            (try simp only [Act.put, List.setIfInBounds_toArray, List.set_cons_zero, List.set_cons_succ])
            refine wpAnyH_done (by kernel_rfl) ?_ _
            gi_wp2
            have hst := HST.out
            rw [if_neg HR.out] at hst
            have h := FIN.out (pk7 u9 ga (i * 7) fno) ((K5.out.trans (keeps_below Z9W.out)).trans (keeps_pk7 u9 ga (i * 7) fno)) (by rw [hst]; have h9 := (P5.out.below Z9W.out).setA HO.out hi fno; rw [List.set_set] at h9; exact h9)
            exact onP_mk h.1 h.2
      · go_simp
        refine hK.out _ _ (hHeld) (fun hHeld2 => ?_)
        clear hK K hHeld
        have hHeld := hHeld2
        clear hHeld2
        (try simp only [Act.put, List.setIfInBounds_toArray, List.set_cons_zero, List.set_cons_succ])
        refine wpAnyH_ready (rs := [3]) (by kernel_rfl) (by simp) ?_
        refine (AllReadyH.cons (o := { dst := some 64, op := Go.Op.load 25 (Go.Operand.tmp 10), type := 25, pos := "inject.go:50", after := #[], guard := none }) rfl (fun K hK => ?_) AllReadyH.nil)
        go_simp
        refine hK.out _ _ (hHeld) (fun hHeld2 => ?_)
        clear hK K hHeld
        have hHeld := hHeld2
        clear hHeld2
        (try simp only [Act.put, List.setIfInBounds_toArray, List.set_cons_zero, List.set_cons_succ])
        refine wpAnyH_ready (rs := [8]) (by kernel_rfl) (by simp) ?_
        refine (AllReadyH.cons (o := { dst := some 69, op := Go.Op.call { callee := Go.Callee.value (Go.Operand.func 12), args := #[Go.Operand.tmp 63, Go.Operand.tmp 64, Go.Operand.tmp 68], argTypes := #[23, 25, 28] }, type := 34, pos := "inject.go:50", after := #[{ on := 2, ground := Go.Ground.data }, { on := 3, ground := Go.Ground.data }, { on := 7, ground := Go.Ground.data }], guard := none }) rfl (fun K hK => ?_) AllReadyH.nil)
        go_simp
        refine (HGO2.out _ (RX.out.below (Below.refl _ _).drew)).mono ?_
        rintro e u3 ⟨A3, c3, rfl, hr3, z3⟩
        go_wp2_with fail
        have z3w : Below W'.heap.size W' u3 := (Below.refl _ _).drew.trans z3
        have Z3W := Lib.hid z3w
        have HR3 := Lib.hid (show Rn W'.heap.size u3 A3 m2 from hr3)
        have ar3 := AR2.out.below z3w
        obtain ⟨r0, r1, r2, r3, r4, r5, r6⟩ := ar3.c7 hi
        have fr := ar3.free
        have lg3 := Nat.lt_of_lt_of_le hgX z3w.size
        have km3 := (show Boxed u3 bm 25 (.slice Am2 km cm2) from (z3w.block _ hmX).trans KM.out).cell
        have fm3 := (show Boxed u3 bm 25 (.slice Am2 km cm2) from (z3w.block _ hmX).trans KM.out).frozen
        have lm3 := Nat.lt_of_lt_of_le hmX z3w.size
        clear ar3 z3w hr3
        refine hK.out _ _ (ke_call HK2.out (fun _ h => h.2.2.2.2.2) hzX z3 hHeld) (fun hHeld2 => ?_)
        clear hK K hHeld
        have hHeld := hHeld2
        clear hHeld2
        (try simp only [Act.put, List.setIfInBounds_toArray, List.set_cons_zero, List.set_cons_succ])
        refine wpAnyH_take (i := 9) (oi := { dst := some 60, op := Go.Op.move (Go.Operand.tmp 69), type := 34, pos := "inject.go:50", after := #[{ on := 8, ground := Go.Ground.data }], guard := none }) (v := ?vrsg11) rfl (by kernel_rfl) (by kernel_rfl) (by kernel_rfl) (fun _ _ _ h => h) (Or.inl ⟨by rfl, ?yrsg11⟩) (by assumption) ?rrsg11
        case yrsg11 => (intro w hSw; (try dsimp only at hSw); go_simp; (try with_reducible rfl))
        (try simp only [Act.put, List.setIfInBounds_toArray, List.set_cons_zero, List.set_cons_succ])
        refine wpAnyH_take (i := 10) (oi := { dst := some 70, op := Go.Op.extract (Go.Operand.tmp 60) 0, type := 25, pos := "inject.go:50", after := #[{ on := 9, ground := Go.Ground.data }], guard := none }) (v := ?vrsg12) rfl (by kernel_rfl) (by kernel_rfl) (by kernel_rfl) (fun _ _ _ h => h) (Or.inl ⟨by rfl, ?yrsg12⟩) (by assumption) ?rrsg12
        case yrsg12 => (intro w hSw; (try dsimp only at hSw); go_simp; (try with_reducible rfl))
        (try simp only [Act.put, List.setIfInBounds_toArray, List.set_cons_zero, List.set_cons_succ])
        refine wpAnyH_take (i := 11) (oi := { dst := some 71, op := Go.Op.extract (Go.Operand.tmp 60) 1, type := 28, pos := "inject.go:50", after := #[{ on := 9, ground := Go.Ground.data }, { on := 12, ground := Go.Ground.gcOnly Go.Departure.lateStores }], guard := none }) (v := ?vrsg13) rfl (by kernel_rfl) (by kernel_rfl) (by kernel_rfl) (fun _ _ _ h => h) (Or.inl ⟨by rfl, ?yrsg13⟩) (by assumption) ?rrsg13
        case yrsg13 => (intro w hSw; (try dsimp only at hSw); go_simp; (try with_reducible rfl))
        (try simp only [Act.put, List.setIfInBounds_toArray, List.set_cons_zero, List.set_cons_succ])
        refine wpAnyH_ready (rs := [12]) (by kernel_rfl) (by simp) ?_
        refine (AllReadyH.cons (o := { dst := none, op := Go.Op.store 25 (Go.Operand.tmp 10) (Go.Operand.tmp 70), type := 0, pos := "inject.go:50", after := #[{ on := 10, ground := Go.Ground.data }, { on := 8, ground := Go.Ground.chain }, { on := 0, ground := Go.Ground.textOnly Go.Departure.lateStores }, { on := 1, ground := Go.Ground.textOnly Go.Departure.lateStores }, { on := 2, ground := Go.Ground.phase }, { on := 3, ground := Go.Ground.phase }, { on := 4, ground := Go.Ground.phase }, { on := 5, ground := Go.Ground.phase }, { on := 6, ground := Go.Ground.phase }, { on := 7, ground := Go.Ground.phase }, { on := 8, ground := Go.Ground.phase }, { on := 9, ground := Go.Ground.phase }, { on := 10, ground := Go.Ground.phase }, { on := 11, ground := Go.Ground.textOnly Go.Departure.lateStores }], guard := none }) rfl (fun K hK => ?_) AllReadyH.nil)
        go_simp
        refine hK.out _ _ (ke_set HK2.out (fun _ h => h.2.2.2.2.2) (by simp) _ _ hHeld) (fun hHeld2 => ?_)
        clear hK K hHeld
        have hHeld := hHeld2
        clear hHeld2
        (try simp only [Act.put, List.setIfInBounds_toArray, List.set_cons_zero, List.set_cons_succ])
        refine wpAnyH_take (i := 13) (oi := { dst := some 72, op := Go.Op.indexAddr 31 (Go.Operand.tmp 61) (Go.Operand.tmp 62), type := 0, pos := "inject.go:50", after := #[{ on := 0, ground := Go.Ground.data }, { on := 1, ground := Go.Ground.data }, { on := 0, ground := Go.Ground.phase }, { on := 1, ground := Go.Ground.phase }, { on := 2, ground := Go.Ground.phase }, { on := 3, ground := Go.Ground.phase }, { on := 4, ground := Go.Ground.phase }, { on := 5, ground := Go.Ground.phase }, { on := 6, ground := Go.Ground.phase }, { on := 7, ground := Go.Ground.phase }, { on := 8, ground := Go.Ground.phase }, { on := 9, ground := Go.Ground.phase }, { on := 10, ground := Go.Ground.phase }, { on := 11, ground := Go.Ground.phase }, { on := 12, ground := Go.Ground.phase }], guard := none }) (v := ?vrsg14) rfl (by kernel_rfl) (by kernel_rfl) (by kernel_rfl) (fun _ _ _ h => h) (Or.inl ⟨by rfl, ?yrsg14⟩) (by assumption) ?rrsg14
        case yrsg14 => (intro w hSw; (try dsimp only at hSw); go_simp; (try with_reducible rfl))
        (try simp only [Act.put, List.setIfInBounds_toArray, List.set_cons_zero, List.set_cons_succ])
        refine wpAnyH_ready (rs := [14]) (by kernel_rfl) (by simp) ?_
        refine (AllReadyH.cons (o := { dst := none, op := Go.Op.store 28 (Go.Operand.tmp 72) (Go.Operand.tmp 71), type := 0, pos := "inject.go:50", after := #[{ on := 13, ground := Go.Ground.data }, { on := 11, ground := Go.Ground.data }, { on := 12, ground := Go.Ground.chain }, { on := 0, ground := Go.Ground.phase }, { on := 1, ground := Go.Ground.phase }, { on := 2, ground := Go.Ground.phase }, { on := 3, ground := Go.Ground.phase }, { on := 4, ground := Go.Ground.phase }, { on := 5, ground := Go.Ground.phase }, { on := 6, ground := Go.Ground.phase }, { on := 7, ground := Go.Ground.phase }, { on := 8, ground := Go.Ground.phase }, { on := 9, ground := Go.Ground.phase }, { on := 10, ground := Go.Ground.phase }, { on := 11, ground := Go.Ground.phase }, { on := 12, ground := Go.Ground.phase }], guard := none }) rfl (fun K hK => ?_) AllReadyH.nil)
        go_simp
        refine hK.out _ _ (ke_pk7 HK2.out (fun _ h => h.2.2.2.2.2) (by simp) _ _ hHeld) (fun hHeld2 => ?_)
        clear hK K hHeld
        have hHeld := hHeld2
        clear hHeld2
        (try simp only [Act.put, List.setIfInBounds_toArray, List.set_cons_zero, List.set_cons_succ])
        refine wpAnyH_done (by kernel_rfl) ?_ _
        gi_wp2_with fail
        refine ⟨trivial, (fun h => by cases h), ?_⟩
        change CallsIn _ _ _ _ _ (pk7 (u3.setCell ⟨bm, 0, none⟩ (.slice A3 km c3)) ga (i * 7) g) _
        have p3 := (P.out.setM (c' := c3) HO.out Z3W.out HR3.out (by rw [HL2.out]; exact HMP.out)).setA HO.out hi g
        rw [HL2.out] at p3
        have P3 := Lib.hid p3
        have K3 := Lib.hid (((K.out.trans (keeps_below Z3W.out)).trans (KeepsOthers.setCell u3 ⟨bm, 0, none⟩ (.slice A3 km c3))).trans (keeps_pk7 (u3.setCell ⟨bm, 0, none⟩ (.slice A3 km c3)) ga (i * 7) g))
        clear p3
        generalize pk7 (u3.setCell ⟨bm, 0, none⟩ (.slice A3 km c3)) ga (i * 7) g = X3 at P3 K3 ⊢
        clear hHeld hHeld0 HK2 Z3W HR3 r0 r1 r2 r3 r4 r5 r6 fr lg3 km3 fm3 lm3 z3 RX KM kmc HGO2 AR2 a0 a1 a2 a3 a4 a5 a6 ka P K
        have hlt2 := Lib.hid (show i < t.a.length by rw [HV.out.al]; exact hi)
        by_cases hr : g.res = 0
        · have hb : (g.res != 0) = false := by simp [hr]
          refine (CallsIn.inRound _ (callsIn_wide.2 (Tells.of (over_any g _) (v' := .bool false) (by rw [hb])))).mono ?_
          rintro _ X4 ⟨rfl, z4⟩
          have P4 := Lib.hid (P3.out.below z4)
          have K4 := Lib.hid (K3.out.trans (keeps_below z4))
          have HR := Lib.hid hr
          clear z4 hb hr P3 K3
          gi_wp2
          have hst := HST.out
          rw [if_pos HR.out] at hst
          have h := FIN.out X4 K4.out (by rw [hst]; exact P4.out)
          exact onP_mk h.1 h.2
        · have hb : (g.res != 0) = true := by simp [hr]
          refine (CallsIn.inRound _ (callsIn_wide.2 (Tells.of (over_any g _) (v' := .bool true) (by rw [hb])))).mono ?_
          rintro _ X4 ⟨rfl, z4⟩
          have P4 := Lib.hid (P3.out.below z4)
          have K4 := Lib.hid (K3.out.trans (keeps_below z4))
          have HR := Lib.hid hr
          clear z4 hb hr P3 K3
          have hz4 : z ≤ X4.heap.size := P4.out.zs
          have hlo : bo < X4.heap.size := by omega
          have ka := P4.out.ab.cell
          have hc7 := P4.out.ar.c7 hi
          rw [getD_set_eq hlt2.out] at hc7
          obtain ⟨a0, a1, a2, a3, a4, a5, a6⟩ := hc7
          obtain ⟨Am5, cm5, Ao5, co5, k1, k2, k3, k4, k6⟩ := P4.out.drew.mo
          have ko : X4.cell? ⟨bo, 0, none⟩ = some (.slice Ao5 t.over.length co5) := k3.cell
          obtain ⟨A6, c6, w6, hrun, hown, hgr, hb6, hblk⟩ := app_one k4 g (by have := HOV.out; omega) P4.out.drew.zs
          have HLOW := Lib.hid (show Below z (X4.drew.alloc (.cells #[.int .i64 g.op, .int .i64 g.pc, .int .i64 g.who, .int .u64 g.val, .int .u64 g.x, .int .u64 g.y, .int .i64 g.res] 28)) w6 from
            ⟨hgr.os, hgr.tape, hgr.output, hgr.size, fun k hk => hgr.block k (by simp; omega) (fun e => by have := (World.ownsRow.lt k4 k e.symm).1; omega)⟩)
          have P6 := Lib.hid (P4.out.drew.setO HO.out k1 k2 k3 k6 (by rw [HL2.out]; exact HMP.out) hown hgr hblk hb6)
          have x6 : Boxed w6 bo 31 (.slice Ao5 t.over.length co5) := (hb6.block bo (by omega)).trans k3
          have ko6 := x6.cell
          have fo6 := x6.frozen
          have lo6 := x6.lt
          have K6 := Lib.hid ((((K4.out.trans (keeps_below (Below.refl _ _).drew)).trans (KeepsOthers.alloc X4.drew (.cells #[.int .i64 g.op, .int .i64 g.pc, .int .i64 g.who, .int .u64 g.val, .int .u64 g.x, .int .u64 g.y, .int .i64 g.res] 28))).trans (KeepsOthers.of_grownBy hgr (fun j o e hj => by
            obtain ⟨o', ho', hc'⟩ := (k4.alloc (.cells #[.int .i64 g.op, .int .i64 g.pc, .int .i64 g.who, .int .u64 g.val, .int .u64 g.x, .int .u64 g.y, .int .i64 g.res] 28)).cells_own e
            rw [hj] at ho'; cases ho'; exact hc'))).trans (KeepsOthers.setCell w6 ⟨bo, 0, none⟩ (.slice A6 (t.over.length + 1) c6)))
          have RUN := Lib.hid hrun
          clear k1 k2 k3 k4 k6 hrun hown hgr hb6 hblk x6
          have HK3 := Lib.hid (show ∀ x', Ke [bo] z X4 x' → (fun w' => w'.cell? ⟨ba, 0, none⟩ = some (.slice (some ⟨ga, 0, none⟩) nc nc) ∧ w'.cell? ⟨ga, i * 7, none⟩ = some (.int .i64 g.op) ∧ w'.cell? ⟨ga, i * 7 + 1, none⟩ = some (.int .i64 g.pc) ∧ w'.cell? ⟨ga, i * 7 + 2, none⟩ = some (.int .i64 g.who) ∧ w'.cell? ⟨ga, i * 7 + 3, none⟩ = some (.int .u64 g.val) ∧ w'.cell? ⟨ga, i * 7 + 4, none⟩ = some (.int .u64 g.x) ∧ w'.cell? ⟨ga, i * 7 + 5, none⟩ = some (.int .u64 g.y) ∧ w'.cell? ⟨ga, i * 7 + 6, none⟩ = some (.int .i64 g.res) ∧ Ke [bo] z X4 w') x' from fun x' hx => by
            have e1 := hx.same ba (by omega) (by simp; omega)
            have e2 := hx.same ga (by omega) (by simp; omega)
            exact ⟨(World.cell?_of_block (a := ⟨ba, 0, none⟩) e1).trans ka, (World.cell?_of_block (a := ⟨ga, i * 7, none⟩) e2).trans a0, (World.cell?_of_block (a := ⟨ga, i * 7 + 1, none⟩) e2).trans a1, (World.cell?_of_block (a := ⟨ga, i * 7 + 2, none⟩) e2).trans a2, (World.cell?_of_block (a := ⟨ga, i * 7 + 3, none⟩) e2).trans a3, (World.cell?_of_block (a := ⟨ga, i * 7 + 4, none⟩) e2).trans a4, (World.cell?_of_block (a := ⟨ga, i * 7 + 5, none⟩) e2).trans a5, (World.cell?_of_block (a := ⟨ga, i * 7 + 6, none⟩) e2).trans a6, hx⟩)
          have hHeld0 := HK3.out _ (Ke.refl _ _ _)
          gi_wp2
          refine wpIn_region_held_round (S := fun w' => w'.cell? ⟨ba, 0, none⟩ = some (.slice (some ⟨ga, 0, none⟩) nc nc) ∧ w'.cell? ⟨ga, i * 7, none⟩ = some (.int .i64 g.op) ∧ w'.cell? ⟨ga, i * 7 + 1, none⟩ = some (.int .i64 g.pc) ∧ w'.cell? ⟨ga, i * 7 + 2, none⟩ = some (.int .i64 g.who) ∧ w'.cell? ⟨ga, i * 7 + 3, none⟩ = some (.int .u64 g.val) ∧ w'.cell? ⟨ga, i * 7 + 4, none⟩ = some (.int .u64 g.x) ∧ w'.cell? ⟨ga, i * 7 + 5, none⟩ = some (.int .u64 g.y) ∧ w'.cell? ⟨ga, i * 7 + 6, none⟩ = some (.int .i64 g.res) ∧ Ke [bo] z X4 w') (by kernel_rfl) (no_defer (by kernel_rfl)) (by rintro ⟨_, _, h⟩; exact h) (ke_drew HK3.out (fun _ h => h.2.2.2.2.2.2.2.2) hHeld0) (fun hHeld => ?_)
          refine wpAnyH_take (i := 1) (oi := { dst := some 79, op := Go.Op.load 31 (Go.Operand.tmp 11), type := 31, pos := "inject.go:52", after := #[], guard := none }) (v := ?vrtn101) rfl (by kernel_rfl) (by kernel_rfl) (by kernel_rfl) (fun _ _ _ h => h) (Or.inl ⟨by rfl, ?yrtn101⟩) (by assumption) ?rrtn101
          case yrtn101 => (intro w hSw; (try dsimp only at hSw); go_simp; (try with_reducible rfl))
          (try simp only [Act.put, List.setIfInBounds_toArray, List.set_cons_zero, List.set_cons_succ])
          refine wpAnyH_take (i := 2) (oi := { dst := some 80, op := Go.Op.move (Go.Operand.tmp 14), type := 3, pos := "inject.go:52", after := #[], guard := none }) (v := ?vrtn102) rfl (by kernel_rfl) (by kernel_rfl) (by kernel_rfl) (fun _ _ _ h => h) (Or.inl ⟨by rfl, ?yrtn102⟩) (by assumption) ?rrtn102
          case yrtn102 => (intro w hSw; (try dsimp only at hSw); go_simp; (try with_reducible rfl))
          (try simp only [Act.put, List.setIfInBounds_toArray, List.set_cons_zero, List.set_cons_succ])
          refine wpAnyH_take (i := 3) (oi := { dst := some 81, op := Go.Op.indexAddr 31 (Go.Operand.tmp 79) (Go.Operand.tmp 80), type := 0, pos := "inject.go:52", after := #[{ on := 1, ground := Go.Ground.data }, { on := 2, ground := Go.Ground.data }], guard := none }) (v := ?vrtn103) rfl (by kernel_rfl) (by kernel_rfl) (by kernel_rfl) (fun _ _ _ h => h) (Or.inl ⟨by rfl, ?yrtn103⟩) (by assumption) ?rrtn103
          case yrtn103 => (intro w hSw; (try dsimp only at hSw); go_simp; (try with_reducible rfl))
          (try simp only [Act.put, List.setIfInBounds_toArray, List.set_cons_zero, List.set_cons_succ])
          refine wpAnyH_take (i := 4) (oi := { dst := some 82, op := Go.Op.load 28 (Go.Operand.tmp 81), type := 28, pos := "inject.go:52", after := #[{ on := 3, ground := Go.Ground.data }], guard := none }) (v := ?vrtn104) rfl (by kernel_rfl) (by kernel_rfl) (by kernel_rfl) (fun _ _ _ h => h) (Or.inl ⟨by rfl, ?yrtn104⟩) (by assumption) ?rrtn104
          case yrtn104 => (intro w hSw; (try dsimp only at hSw); go_simp; (try with_reducible rfl))
          (try simp only [Act.put, List.setIfInBounds_toArray, List.set_cons_zero, List.set_cons_succ])
          refine wpAnyH_ready (rs := [0, 5]) (by kernel_rfl) (by simp) ?_
          refine (AllReadyH.cons (o := { dst := some 78, op := Go.Op.load 31 (Go.Operand.tmp 13), type := 31, pos := "inject.go:52", after := #[], guard := none }) rfl (fun K hK => ?_) (AllReadyH.cons (o := { dst := some 83, op := Go.Op.buildSlice 31 1 #[(0, Go.Operand.tmp 82)], type := 31, pos := "inject.go:52", after := #[{ on := 4, ground := Go.Ground.data }], guard := none }) rfl (fun K hK => ?_) AllReadyH.nil))
          · go_simp
            refine hK.out _ _ (hHeld) (fun hHeld2 => ?_)
            clear hK K hHeld
            have hHeld := hHeld2
            clear hHeld2
            (try simp only [Act.put, List.setIfInBounds_toArray, List.set_cons_zero, List.set_cons_succ])
            refine wpAnyH_ready (rs := [5]) (by kernel_rfl) (by simp) ?_
            refine (AllReadyH.cons (o := { dst := some 83, op := Go.Op.buildSlice 31 1 #[(0, Go.Operand.tmp 82)], type := 31, pos := "inject.go:52", after := #[{ on := 4, ground := Go.Ground.data }], guard := none }) rfl (fun K hK => ?_) AllReadyH.nil)
            go_simp
            refine hK.out _ _ (ke_alloc HK3.out (fun _ h => h.2.2.2.2.2.2.2.2) hz4 _ hHeld) (fun hHeld2 => ?_)
            clear hK K hHeld
            have hHeld := hHeld2
            clear hHeld2
            (try simp only [Act.put, List.setIfInBounds_toArray, List.set_cons_zero, List.set_cons_succ])
            refine wpAnyH_ready (rs := [6]) (by kernel_rfl) (by simp) ?_
            refine (AllReadyH.cons (o := { dst := some 84, op := Go.Op.call { callee := Go.Callee.builtin Go.Builtin.append, args := #[Go.Operand.tmp 78, Go.Operand.tmp 83], argTypes := #[31, 31] }, type := 31, pos := "inject.go:52", after := #[{ on := 0, ground := Go.Ground.data }, { on := 5, ground := Go.Ground.data }], guard := none }) rfl (fun K hK => ?_) AllReadyH.nil)
            refine step_append_run RUN.out ⟨_, _, rfl, rfl, rfl⟩ rfl rfl ?_
            refine hK.out _ _ (ke_low HK3.out (fun _ h => h.2.2.2.2.2.2.2.2) HLOW.out hHeld) (fun hHeld2 => ?_)
            clear hK K hHeld
            have hHeld := hHeld2
            clear hHeld2
            (try simp only [Act.put, List.setIfInBounds_toArray, List.set_cons_zero, List.set_cons_succ])
            refine wpAnyH_ready (rs := [7]) (by kernel_rfl) (by simp) ?_
            refine (AllReadyH.cons (o := { dst := none, op := Go.Op.store 31 (Go.Operand.tmp 13) (Go.Operand.tmp 84), type := 0, pos := "inject.go:52", after := #[{ on := 6, ground := Go.Ground.data }, { on := 6, ground := Go.Ground.chain }, { on := 0, ground := Go.Ground.phase }, { on := 1, ground := Go.Ground.phase }, { on := 2, ground := Go.Ground.phase }, { on := 3, ground := Go.Ground.phase }, { on := 4, ground := Go.Ground.phase }, { on := 5, ground := Go.Ground.phase }, { on := 6, ground := Go.Ground.phase }], guard := none }) rfl (fun K hK => ?_) AllReadyH.nil)
            go_simp
            refine hK.out _ _ (ke_set HK3.out (fun _ h => h.2.2.2.2.2.2.2.2) (by simp) _ _ hHeld) (fun hHeld2 => ?_)
            clear hK K hHeld
            have hHeld := hHeld2
            clear hHeld2
            (try simp only [Act.put, List.setIfInBounds_toArray, List.set_cons_zero, List.set_cons_succ])
            refine wpAnyH_done (by kernel_rfl) ?_ _
            gi_wp2
            change Code.wpIn _ _ _ _ _ _ (w6.setCell ⟨bo, 0, none⟩ (.slice A6 (t.over.length + 1) c6))
            have P5 := P6
            have K5 := K6
            generalize w6.setCell ⟨bo, 0, none⟩ (.slice A6 (t.over.length + 1) c6) = X5 at P5 K5 ⊢
            clear hHeld hHeld0 HK3 ko ko6 fo6 lo6 RUN P6 K6 HLOW ka a0 a1 a2 a3 a4 a5 a6
            have hz5 : z ≤ X5.heap.size := P5.out.zs
            have hg5 : ga < X5.heap.size := by omega
            have ka := P5.out.ab.cell
            have HK4 := Lib.hid (show ∀ x', Ke [ga] z X5 x' → (fun w' => w'.cell? ⟨ba, 0, none⟩ = some (.slice (some ⟨ga, 0, none⟩) nc nc) ∧ Ke [ga] z X5 w') x' from fun x' hx => by
              have e1 := hx.same ba (by omega) (by simp; omega)
              exact ⟨(World.cell?_of_block (a := ⟨ba, 0, none⟩) e1).trans ka, hx⟩)
            have hHeld0 := HK4.out _ (Ke.refl _ _ _)
            refine wpIn_region_held_round (S := fun w' => w'.cell? ⟨ba, 0, none⟩ = some (.slice (some ⟨ga, 0, none⟩) nc nc) ∧ Ke [ga] z X5 w') (by kernel_rfl) (no_defer (by kernel_rfl)) (by rintro ⟨_, _, h⟩; exact h) (ke_drew HK4.out (fun _ h => h.2) hHeld0) (fun hHeld => ?_)
            refine wpAnyH_take (i := 0) (oi := { dst := some 85, op := Go.Op.load 31 (Go.Operand.tmp 11), type := 31, pos := "inject.go:53", after := #[], guard := none }) (v := ?vrun111) rfl (by kernel_rfl) (by kernel_rfl) (by kernel_rfl) (fun _ _ _ h => h) (Or.inl ⟨by rfl, ?yrun111⟩) (by assumption) ?rrun111
            case yrun111 => (intro w hSw; (try dsimp only at hSw); go_simp; (try with_reducible rfl))
            (try simp only [Act.put, List.setIfInBounds_toArray, List.set_cons_zero, List.set_cons_succ])
            refine wpAnyH_take (i := 1) (oi := { dst := some 86, op := Go.Op.move (Go.Operand.tmp 14), type := 3, pos := "inject.go:53", after := #[], guard := none }) (v := ?vrun112) rfl (by kernel_rfl) (by kernel_rfl) (by kernel_rfl) (fun _ _ _ h => h) (Or.inl ⟨by rfl, ?yrun112⟩) (by assumption) ?rrun112
            case yrun112 => (intro w hSw; (try dsimp only at hSw); go_simp; (try with_reducible rfl))
            (try simp only [Act.put, List.setIfInBounds_toArray, List.set_cons_zero, List.set_cons_succ])
            refine wpAnyH_ready (rs := [2]) (by kernel_rfl) (by simp) ?_
            refine (AllReadyH.cons (o := { dst := some 87, op := Go.Op.call { callee := Go.Callee.value (Go.Operand.func 36), args := #[], argTypes := #[] }, type := 28, pos := "inject.go:53", after := #[], guard := none }) rfl (fun K hK => ?_) AllReadyH.nil)
            go_simp
            refine (nocall_any _).mono ?_
            rintro e u9 ⟨rfl, z9⟩
            go_wp2_with fail
            have z9w : Below X5.heap.size X5 u9 := (Below.refl _ _).drew.trans z9
            have Z9W := Lib.hid z9w
            have ar9 := P5.out.ar.below z9w
            obtain ⟨r0, r1, r2, r3, r4, r5, r6⟩ := ar9.c7 hi
            have fr := ar9.free
            have lg9 := Nat.lt_of_lt_of_le hg5 z9w.size
            clear ar9 z9w
            refine hK.out _ _ (ke_call HK4.out (fun _ h => h.2) hz5 z9 hHeld) (fun hHeld2 => ?_)
            clear hK K hHeld
            have hHeld := hHeld2
            clear hHeld2
            (try simp only [Act.put, List.setIfInBounds_toArray, List.set_cons_zero, List.set_cons_succ])
            refine wpAnyH_take (i := 3) (oi := { dst := some 88, op := Go.Op.indexAddr 31 (Go.Operand.tmp 85) (Go.Operand.tmp 86), type := 0, pos := "inject.go:53", after := #[{ on := 0, ground := Go.Ground.data }, { on := 1, ground := Go.Ground.data }, { on := 0, ground := Go.Ground.phase }, { on := 1, ground := Go.Ground.phase }, { on := 2, ground := Go.Ground.phase }], guard := none }) (v := ?vrun113) rfl (by kernel_rfl) (by kernel_rfl) (by kernel_rfl) (fun _ _ _ h => h) (Or.inl ⟨by rfl, ?yrun113⟩) (by assumption) ?rrun113
            case yrun113 => (intro w hSw; (try dsimp only at hSw); go_simp; (try with_reducible rfl))
            (try simp only [Act.put, List.setIfInBounds_toArray, List.set_cons_zero, List.set_cons_succ])
            refine wpAnyH_ready (rs := [4]) (by kernel_rfl) (by simp) ?_
            refine (AllReadyH.cons (o := { dst := none, op := Go.Op.store 28 (Go.Operand.tmp 88) (Go.Operand.tmp 87), type := 0, pos := "inject.go:53", after := #[{ on := 3, ground := Go.Ground.data }, { on := 2, ground := Go.Ground.data }, { on := 2, ground := Go.Ground.chain }, { on := 0, ground := Go.Ground.phase }, { on := 1, ground := Go.Ground.phase }, { on := 2, ground := Go.Ground.phase }], guard := none }) rfl (fun K hK => ?_) AllReadyH.nil)
            go_simp
            refine hK.out _ _ (ke_pk7 HK4.out (fun _ h => h.2) (by simp) _ _ hHeld) (fun hHeld2 => ?_)
            clear hK K hHeld
            have hHeld := hHeld2
            clear hHeld2
            (try simp only [Act.put, List.setIfInBounds_toArray, List.set_cons_zero, List.set_cons_succ])
            refine wpAnyH_done (by kernel_rfl) ?_ _
            gi_wp2
            have hst := HST.out
            rw [if_neg HR.out] at hst
            have h := FIN.out (pk7 u9 ga (i * 7) fno) ((K5.out.trans (keeps_below Z9W.out)).trans (keeps_pk7 u9 ga (i * 7) fno)) (by rw [hst]; have h9 := (P5.out.below Z9W.out).setA HO.out hi fno; rw [List.set_set] at h9; exact h9)
            exact onP_mk h.1 h.2
          · go_simp
            refine hK.out _ _ (ke_alloc HK3.out (fun _ h => h.2.2.2.2.2.2.2.2) hz4 _ hHeld) (fun hHeld2 => ?_)
            clear hK K hHeld
            have hHeld := hHeld2
            clear hHeld2
            (try simp only [Act.put, List.setIfInBounds_toArray, List.set_cons_zero, List.set_cons_succ])
            refine wpAnyH_ready (rs := [0]) (by kernel_rfl) (by simp) ?_
            refine (AllReadyH.cons (o := { dst := some 78, op := Go.Op.load 31 (Go.Operand.tmp 13), type := 31, pos := "inject.go:52", after := #[], guard := none }) rfl (fun K hK => ?_) AllReadyH.nil)
            go_simp
            refine hK.out _ _ (hHeld) (fun hHeld2 => ?_)
            clear hK K hHeld
            have hHeld := hHeld2
            clear hHeld2
            (try simp only [Act.put, List.setIfInBounds_toArray, List.set_cons_zero, List.set_cons_succ])
            refine wpAnyH_ready (rs := [6]) (by kernel_rfl) (by simp) ?_
            refine (AllReadyH.cons (o := { dst := some 84, op := Go.Op.call { callee := Go.Callee.builtin Go.Builtin.append, args := #[Go.Operand.tmp 78, Go.Operand.tmp 83], argTypes := #[31, 31] }, type := 31, pos := "inject.go:52", after := #[{ on := 0, ground := Go.Ground.data }, { on := 5, ground := Go.Ground.data }], guard := none }) rfl (fun K hK => ?_) AllReadyH.nil)
            refine step_append_run RUN.out ⟨_, _, rfl, rfl, rfl⟩ rfl rfl ?_
            refine hK.out _ _ (ke_low HK3.out (fun _ h => h.2.2.2.2.2.2.2.2) HLOW.out hHeld) (fun hHeld2 => ?_)
            clear hK K hHeld
            have hHeld := hHeld2
            clear hHeld2
            (try simp only [Act.put, List.setIfInBounds_toArray, List.set_cons_zero, List.set_cons_succ])
            refine wpAnyH_ready (rs := [7]) (by kernel_rfl) (by simp) ?_
            refine (AllReadyH.cons (o := { dst := none, op := Go.Op.store 31 (Go.Operand.tmp 13) (Go.Operand.tmp 84), type := 0, pos := "inject.go:52", after := #[{ on := 6, ground := Go.Ground.data }, { on := 6, ground := Go.Ground.chain }, { on := 0, ground := Go.Ground.phase }, { on := 1, ground := Go.Ground.phase }, { on := 2, ground := Go.Ground.phase }, { on := 3, ground := Go.Ground.phase }, { on := 4, ground := Go.Ground.phase }, { on := 5, ground := Go.Ground.phase }, { on := 6, ground := Go.Ground.phase }], guard := none }) rfl (fun K hK => ?_) AllReadyH.nil)
            go_simp
            refine hK.out _ _ (ke_set HK3.out (fun _ h => h.2.2.2.2.2.2.2.2) (by simp) _ _ hHeld) (fun hHeld2 => ?_)
            clear hK K hHeld
            have hHeld := hHeld2
            clear hHeld2
            (try simp only [Act.put, List.setIfInBounds_toArray, List.set_cons_zero, List.set_cons_succ])
            refine wpAnyH_done (by kernel_rfl) ?_ _
            gi_wp2
            change Code.wpIn _ _ _ _ _ _ (w6.setCell ⟨bo, 0, none⟩ (.slice A6 (t.over.length + 1) c6))
            have P5 := P6
            have K5 := K6
            generalize w6.setCell ⟨bo, 0, none⟩ (.slice A6 (t.over.length + 1) c6) = X5 at P5 K5 ⊢
            clear hHeld hHeld0 HK3 ko ko6 fo6 lo6 RUN P6 K6 HLOW ka a0 a1 a2 a3 a4 a5 a6
            have hz5 : z ≤ X5.heap.size := P5.out.zs
            have hg5 : ga < X5.heap.size := by omega
            have ka := P5.out.ab.cell
            have HK4 := Lib.hid (show ∀ x', Ke [ga] z X5 x' → (fun w' => w'.cell? ⟨ba, 0, none⟩ = some (.slice (some ⟨ga, 0, none⟩) nc nc) ∧ Ke [ga] z X5 w') x' from fun x' hx => by
              have e1 := hx.same ba (by omega) (by simp; omega)
              exact ⟨(World.cell?_of_block (a := ⟨ba, 0, none⟩) e1).trans ka, hx⟩)
            have hHeld0 := HK4.out _ (Ke.refl _ _ _)
            refine wpIn_region_held_round (S := fun w' => w'.cell? ⟨ba, 0, none⟩ = some (.slice (some ⟨ga, 0, none⟩) nc nc) ∧ Ke [ga] z X5 w') (by kernel_rfl) (no_defer (by kernel_rfl)) (by rintro ⟨_, _, h⟩; exact h) (ke_drew HK4.out (fun _ h => h.2) hHeld0) (fun hHeld => ?_)
            refine wpAnyH_take (i := 0) (oi := { dst := some 85, op := Go.Op.load 31 (Go.Operand.tmp 11), type := 31, pos := "inject.go:53", after := #[], guard := none }) (v := ?vrun121) rfl (by kernel_rfl) (by kernel_rfl) (by kernel_rfl) (fun _ _ _ h => h) (Or.inl ⟨by rfl, ?yrun121⟩) (by assumption) ?rrun121
            case yrun121 => (intro w hSw; (try dsimp only at hSw); go_simp; (try with_reducible rfl))
            (try simp only [Act.put, List.setIfInBounds_toArray, List.set_cons_zero, List.set_cons_succ])
            refine wpAnyH_take (i := 1) (oi := { dst := some 86, op := Go.Op.move (Go.Operand.tmp 14), type := 3, pos := "inject.go:53", after := #[], guard := none }) (v := ?vrun122) rfl (by kernel_rfl) (by kernel_rfl) (by kernel_rfl) (fun _ _ _ h => h) (Or.inl ⟨by rfl, ?yrun122⟩) (by assumption) ?rrun122
            case yrun122 => (intro w hSw; (try dsimp only at hSw); go_simp; (try with_reducible rfl))
            (try simp only [Act.put, List.setIfInBounds_toArray, List.set_cons_zero, List.set_cons_succ])
            refine wpAnyH_ready (rs := [2]) (by kernel_rfl) (by simp) ?_
            refine (AllReadyH.cons (o := { dst := some 87, op := Go.Op.call { callee := Go.Callee.value (Go.Operand.func 36), args := #[], argTypes := #[] }, type := 28, pos := "inject.go:53", after := #[], guard := none }) rfl (fun K hK => ?_) AllReadyH.nil)
            go_simp
            refine (nocall_any _).mono ?_
            rintro e u9 ⟨rfl, z9⟩
            go_wp2_with fail
            have z9w : Below X5.heap.size X5 u9 := (Below.refl _ _).drew.trans z9
            have Z9W := Lib.hid z9w
            have ar9 := P5.out.ar.below z9w
            obtain ⟨r0, r1, r2, r3, r4, r5, r6⟩ := ar9.c7 hi
            have fr := ar9.free
            have lg9 := Nat.lt_of_lt_of_le hg5 z9w.size
            clear ar9 z9w
            refine hK.out _ _ (ke_call HK4.out (fun _ h => h.2) hz5 z9 hHeld) (fun hHeld2 => ?_)
            clear hK K hHeld
            have hHeld := hHeld2
            clear hHeld2
            (try simp only [Act.put, List.setIfInBounds_toArray, List.set_cons_zero, List.set_cons_succ])
            refine wpAnyH_take (i := 3) (oi := { dst := some 88, op := Go.Op.indexAddr 31 (Go.Operand.tmp 85) (Go.Operand.tmp 86), type := 0, pos := "inject.go:53", after := #[{ on := 0, ground := Go.Ground.data }, { on := 1, ground := Go.Ground.data }, { on := 0, ground := Go.Ground.phase }, { on := 1, ground := Go.Ground.phase }, { on := 2, ground := Go.Ground.phase }], guard := none }) (v := ?vrun123) rfl (by kernel_rfl) (by kernel_rfl) (by kernel_rfl) (fun _ _ _ h => h) (Or.inl ⟨by rfl, ?yrun123⟩) (by assumption) ?rrun123
            case yrun123 => (intro w hSw; (try dsimp only at hSw); go_simp; (try with_reducible rfl))
            (try simp only [Act.put, List.setIfInBounds_toArray, List.set_cons_zero, List.set_cons_succ])
            refine wpAnyH_ready (rs := [4]) (by kernel_rfl) (by simp) ?_
            refine (AllReadyH.cons (o := { dst := none, op := Go.Op.store 28 (Go.Operand.tmp 88) (Go.Operand.tmp 87), type := 0, pos := "inject.go:53", after := #[{ on := 3, ground := Go.Ground.data }, { on := 2, ground := Go.Ground.data }, { on := 2, ground := Go.Ground.chain }, { on := 0, ground := Go.Ground.phase }, { on := 1, ground := Go.Ground.phase }, { on := 2, ground := Go.Ground.phase }], guard := none }) rfl (fun K hK => ?_) AllReadyH.nil)
            go_simp
            refine hK.out _ _ (ke_pk7 HK4.out (fun _ h => h.2) (by simp) _ _ hHeld) (fun hHeld2 => ?_)
            clear hK K hHeld
            have hHeld := hHeld2
            clear hHeld2
            (try simp only [Act.put, List.setIfInBounds_toArray, List.set_cons_zero, List.set_cons_succ])
            refine wpAnyH_done (by kernel_rfl) ?_ _
            gi_wp2
            have hst := HST.out
            rw [if_neg HR.out] at hst
            have h := FIN.out (pk7 u9 ga (i * 7) fno) ((K5.out.trans (keeps_below Z9W.out)).trans (keeps_pk7 u9 ga (i * 7) fno)) (by rw [hst]; have h9 := (P5.out.below Z9W.out).setA HO.out hi fno; rw [List.set_set] at h9; exact h9)
            exact onP_mk h.1 h.2
  case done =>
    rintro D' W hD ⟨h1, h2⟩ hK
    rw [valI_fold] at h1 h2
    have e : calls.length = nc := HNC.out
    have e2 : who.foldl (playI1 J nc) (startI J calls) = playI J calls who := by unfold playI; rw [e]
    rw [e2] at h1 h2
    have ka := h1.ab.cell
    obtain ⟨Am2, cm2, Ao2, co2, k1, k2, k3, k4, k6⟩ := h1.mo
    have km := k1.cell
    have ko := k3.cell
    have H1 := Lib.hid h1
    have H2 := Lib.hid k2.rd
    have H4 := Lib.hid k4
    have H5 := Lib.hid (ow_cap k4)
    have HK2 := Lib.hid hK
    have HAL := Lib.hid h2.al
    clear h1 h2 k1 k2 k3 k4 k6 hK e e2 P0 V0
    gi_wp2
    gi_region
    all_goals
      gi_wp2
      refine leaves_mark (n₀ := w.heap.size) D' _ HK2.out (by omega) ?_
      intro W2 hc _ _
      have hc2 : Cl w.heap.size W W2 := Cl.trans ⟨(Below.refl _ _).drew, fun _ _ h _ => h⟩ hc
      have P2 := H1.out.cl hc2
      refine ⟨.tuple #[.slice Am2 (playI J calls who).m.length cm2, .slice Ao2 (playI J calls who).over.length co2, .slice (some ⟨ga, 0, none⟩) nc nc], by simp [results, Try.results14, go_sem]; try rfl, Am2, cm2, Ao2, co2, _, nc, by rw [HAL.out], ?_, ?_, ?_, ?_, P2.be⟩
      · exact rd_cl H2.out hc2
      · exact (H4.out.cl hc2).pr
      · exact H5.out
      · exact P2.ar.pr
end Go.Proofs.Ytppllanmgdhabaa
