/- Contract of Play. -/
import Derived.Test.YtgemaeibmgkneaaEvP
import Derived.Test.YtgemaeibmgkneaaLaC
import Derived.Stop.RegionWithIn
import Derived.Deep.RegionHeld3
import Derived.Sort.CutIn
namespace Go.Proofs.Ytgemaeibmgkneaa
open Go.RowKit Go.Deep Go.Shelf
attribute [local go_sem] Oper.semAt_some run_store_func run_makeFunc
/-- What a play leaves. -/
def RetPl (w : World) (m : List Int) (a over : List Fr) (e : Ending) (w' : World) : Prop :=
  ∃ Am cm Ao co Aa ca, e = .returned (.tuple #[.slice Am m.length cm, .slice Ao over.length co, .slice Aa a.length ca]) ∧ Rd w' Am m ∧ Pr w'.heap.size w' Ao over ∧ over.length ≤ co ∧ Pr w'.heap.size w' Aa a ∧ a.length ≤ ca ∧ Below w.heap.size w w'
set_option maxRecDepth 100000 in
theorem Os.rebase {w : World} {base g n c : Nat} {vs : List Value} (h : Os w base (some ⟨g, 0, none⟩) n c vs) : Os w g (some ⟨g, 0, none⟩) n c vs := by
  obtain ⟨e1, e2⟩ := h
  rcases e2 with ⟨e2, _⟩ | ⟨g', cap, cur, hv, hbg, hg, hr⟩
  · cases e2
  · injection hv with hA _ hc
    cases hA
    subst hc
    exact ⟨e1, .inr ⟨_, _, cur, rfl, Nat.le_refl _, hg, hr⟩⟩
set_option maxRecDepth 100000 in
theorem may11 {N : Nat} (h : may N 1 1 0 = true) : 1 ≤ N ∧ N ≤ 8 := by
  have := (may_lim h).1
  omega
set_option maxRecDepth 100000 in
theorem keeps_kb {g : Nat} {w w' : World} (h : Kb g w w') (hg : ∀ o, w.heap[g]? = some o → o.isCells = true) : KeepsOthers w w' :=
  ⟨h.size, fun k o hk hc => by
    by_cases e : k = g
    · subst e; rw [hg o hk] at hc; cases hc
    · exact (h.others k (Array.getElem?_eq_some_iff.1 hk).1 e).trans hk⟩
set_option maxHeartbeats 8000000 in
set_option maxRecDepth 100000 in
theorem play_in (n : Nat) (A B : Option Addr) (nc cc nw cw : Nat) (vs : List Value) (calls : List (List Int)) (who : List Int) (w : World) (hA : Rv w A vs) (hL : Lr w.heap.size w vs calls) (hB : Ri w B who) (hnc : calls.length = nc) (hnw : who.length = nw) (hw5 : nw ≤ 504) (hm : may nc 1 1 0 = true) (h5 : ∀ l ∈ calls, l.length ≤ 500) :
    CallsIn Fence.wide n Try.prog 11 #[.slice A nc cc, .slice B nw cw] w (RetPl w (playE calls who).m (playE calls who).a (playE calls who).over) := by
  obtain ⟨hpos, h8⟩ := may11 hm
  have HA := Lib.hid hA
  have HL := Lib.hid hL
  have HW := Lib.hid hB
  have HM := Lib.hid hm
  have HU := Lib.hid h5
  have HNC := Lib.hid hnc
  have HNW := Lib.hid hnw
  clear hA hL hB hm h5 hnc hnw
  refine callsIn_of_wp_marks Try.func11 rfl trivial ?_ rfl
  simp only [Try.ntmps11, List.size_toArray, List.length_cons, List.length_nil, Nat.reduceAdd, Nat.reduceSub, Array.replicate_succ, Array.replicate_zero, List.push_toArray, List.append_toArray, List.nil_append, List.cons_append]
  gi_wp2_with fail
  refine ⟨trivial, (fun h => by cases h), ?_⟩
  refine (callsIn_wide.2 (layout_any nc _)).mono ?_
  rintro _ w1 ⟨rfl, z1⟩
  have Z := Lib.hid z1
  have hz1 := z1.size
  clear z1
  gi_wp2_with fail
  refine ⟨trivial, (fun h => by cases h), ?_⟩
  have bx := Bx.mk w1 nc 1 1 0 36
  have hb1 : Below w.heap.size w (w1.alloc (.cells #[.int .i64 nc, .int .i64 1, .int .i64 1, .int .i64 0] 36)) := Z.out.alloc hz1 _
  refine (callsIn_wide.2 (Tells.of (may_any nc 1 1 0 _) (v' := .bool true) (by rw [HM.out]))).mono ?_
  rintro _ w2 ⟨rfl, z2⟩
  have Z2 := Lib.hid (hb1.trans (z2.mono (by have := hb1.size; omega)))
  have BX2 := Lib.hid (bx.below z2)
  have hz2 := Z2.out.size
  have hz21 : w1.heap.size + 1 ≤ w2.heap.size := by have := z2.size; simpa using this
  clear z2 bx hb1
  obtain ⟨_, b0, b1, b2, b3⟩ := BX2.out
  gi_wp2_with fail
  refine ⟨trivial, (fun h => by cases h), ?_⟩
  refine (callsIn_wide.2 (new_any nc 1 1 0 _)).mono ?_
  rintro _ w3 ⟨Am, cm, rfl, rm, z3⟩
  have Z3 := Lib.hid (Z2.out.trans (z3.mono hz2))
  have BX3 := Lib.hid (BX2.out.below z3)
  have RM3 := Lib.hid rm
  have hz3 := z3.size
  clear z3 rm b0 b1 b2 b3 BX2 Z2
  gi_wp2_with fail
  refine ⟨trivial, (fun h => by cases h), ?_⟩
  refine (callsIn_wide.2 (nocall_any _)).mono ?_
  rintro _ w4 ⟨rfl, z4⟩
  have Z4 := Lib.hid (Z3.out.trans (z4.mono (by omega)))
  have BX4 := Lib.hid (BX3.out.below z4)
  have RM4 := Lib.hid (RM3.out.below z4)
  have hz4 := z4.size
  clear z4 BX3 RM3 Z3
  gi_wp2_with fail
  refine ⟨trivial, (fun h => by cases h), ?_⟩
  have bel4 : Below w4.heap.size w4 (w4.alloc (.cells #[.int .i64 (-1), .int .i64 0, .int .i64 0, .int .u64 0, .int .u64 0, .int .u64 0, .int .i64 0] 34)) := (Below.refl _ _).alloc (Nat.le_refl _) _
  have hRep := repeat_any w4.heap.size nc fnE (w4.alloc (.cells #[.int .i64 (-1), .int .i64 0, .int .i64 0, .int .u64 0, .int .u64 0, .int .u64 0, .int .i64 0] 34)) ⟨hpos, by omega⟩ (by simp) (pc_new w4 fnE)
  refine (callsIn_wide.2 hRep).mono ?_
  rintro _ w5 ⟨rfl, bg5, z5⟩
  have Z5 := Lib.hid (Z4.out.trans (bel4.mono (by omega)) |>.trans (z5.mono (by simp; omega)))
  have BX5 := Lib.hid ((BX4.out.below bel4).below z5)
  have RM5 := Lib.hid ((RM4.out.below bel4).below z5)
  have hz5 : w4.heap.size + 1 ≤ w5.heap.size := by have := z5.size; simpa using this
  have BG5 := Lib.hid bg5
  clear z5 bg5 BX4 Z4 hRep bel4
  gi_wp2_with fail
  refine ⟨trivial, (fun h => by cases h), ?_⟩
  have n1 := Boxed.new w5 27 (.slice Am (sz nc 1 1 0).toNat cm)
  have n2 := Boxed.new (w5.alloc (.cells #[.slice Am (sz nc 1 1 0).toNat cm] 27)) 28 (.slice (some ⟨w4.heap.size + 1, 0, none⟩) nc nc)
  rw [World.size_alloc] at n2
  have n1' := n1.alloc (.cells #[.slice (some ⟨w4.heap.size + 1, 0, none⟩) nc nc] 28)
  have y0 : Below w5.heap.size w5 ((w5.alloc (.cells #[.slice Am (sz nc 1 1 0).toNat cm] 27)).alloc (.cells #[.slice (some ⟨w4.heap.size + 1, 0, none⟩) nc nc] 28)) := ((Below.refl _ _).alloc (Nat.le_refl _) _).alloc (by simp) _
  have hy0 : ((w5.alloc (.cells #[.slice Am (sz nc 1 1 0).toNat cm] 27)).alloc (.cells #[.slice (some ⟨w4.heap.size + 1, 0, none⟩) nc nc] 28)).heap.size = w5.heap.size + 2 := by simp
  generalize (w5.alloc (.cells #[.slice Am (sz nc 1 1 0).toNat cm] 27)).alloc (.cells #[.slice (some ⟨w4.heap.size + 1, 0, none⟩) nc nc] 28) = v5 at n1' n2 y0 hy0 ⊢
  have hws5 := Z5.out.size
  refine (callsIn_wide.2 (next_any A nc cc vs v5 (HA.out.below (Z5.out.trans (y0.mono hws5))) HL.out.sli (HL.out.len.trans HNC.out) (by omega))).mono ?_
  rintro _ w6 ⟨bl, Al, cl, rfl, os6, hbl, bx6, hge, z6⟩
  have hz6 := z6.size
  have N1 := Lib.hid (show Boxed w6 w5.heap.size 27 _ from (z6.block _ (by omega)).trans n1')
  have N2 := Lib.hid (show Boxed w6 (w5.heap.size + 1) 28 _ from (z6.block _ (by omega)).trans n2)
  have Y6 := Lib.hid (y0.trans (z6.mono (by omega)))
  obtain ⟨gl, rfl, hgl5, hgl6, _⟩ := os6.at hpos
  have hglb : gl < bl := hbl gl rfl
  have OS6 := Lib.hid os6
  have BX6 := Lib.hid bx6
  have hbl6 := bx6.lt
  clear n1 n2 n1' y0 z6 os6 hbl bx6
  gi_wp2_with (refine ⟨trivial, (fun h => by cases h), ?_⟩; gi_at_call 26; refine (turns_in _ _ _ _ _ _).mono ?_; rintro e w' ⟨rfl, rfl⟩)
  have q1 := Boxed.new w6 52 (.func (.func 44) #[] #[.pointer (some ⟨bl, 0, none⟩)])
  have e1 : (w6.alloc (.cells #[.func (.func 44) #[] #[.pointer (some ⟨bl, 0, none⟩)]] 52)).heap.size = w6.heap.size + 1 := by simp
  have y1 : Below w6.heap.size w6 (w6.alloc (.cells #[.func (.func 44) #[] #[.pointer (some ⟨bl, 0, none⟩)]] 52)) := bel_alloc _ _
  generalize w6.alloc (.cells #[.func (.func 44) #[] #[.pointer (some ⟨bl, 0, none⟩)]] 52) = x1 at q1 e1 y1 ⊢
  have q2 := Boxed.new x1 28 (.slice none 0 0)
  have e2 : (x1.alloc (.cells #[.slice none 0 0] 28)).heap.size = x1.heap.size + 1 := by simp
  have y2 : Below x1.heap.size x1 (x1.alloc (.cells #[.slice none 0 0] 28)) := bel_alloc _ _
  generalize x1.alloc (.cells #[.slice none 0 0] 28) = x2 at q2 e2 y2 ⊢
  have q3 := Boxed.new x2 23 (.slice B nw cw)
  have e3 : (x2.alloc (.cells #[.slice B nw cw] 23)).heap.size = x2.heap.size + 1 := by simp
  have y3 : Below x2.heap.size x2 (x2.alloc (.cells #[.slice B nw cw] 23)) := bel_alloc _ _
  generalize x2.alloc (.cells #[.slice B nw cw] 23) = x3 at q3 e3 y3 ⊢
  have q4 := Boxed.new x3 3 (.int .i64 (nc : Int))
  have e4 : (x3.alloc (.cells #[.int .i64 (nc : Int)] 3)).heap.size = x3.heap.size + 1 := by simp
  have y4 : Below x3.heap.size x3 (x3.alloc (.cells #[.int .i64 (nc : Int)] 3)) := bel_alloc _ _
  generalize x3.alloc (.cells #[.int .i64 (nc : Int)] 3) = W7 at q4 e4 y4 ⊢
  rw [e1] at q2
  rw [e2, e1] at q3
  rw [e3, e2, e1] at q4
  have Y7 : Below w6.heap.size w6 W7 := ((y1.trans (y2.mono (by omega))).trans (y3.mono (by omega))).trans (y4.mono (by omega))
  have hz7 : W7.heap.size = w6.heap.size + 1 + 1 + 1 + 1 := by omega
  have hmpos : 0 < (sz nc 1 1 0).toNat := by
    have h2 : sz nc 1 1 0 = bg 1 1 nc := by unfold sz; rw [HM.out]; rfl
    have h4 := bg_ge (D := 1) (J := 1) (w := nc) (by omega) (by omega) (by omega)
    omega
  have ho : OB w.heap.size w1.heap.size (w4.heap.size + 1) w5.heap.size (w5.heap.size + 1) gl bl w6.heap.size (w6.heap.size + 1) (w6.heap.size + 1 + 1) (w6.heap.size + 1 + 1 + 1) W7.heap.size :=
    ⟨hz1, by omega, by have := BG5.out.lt; rw [World.size_alloc] at this; exact this, by omega, by omega, hglb, hbl6, by omega, by omega, by omega, by omega⟩
  have p0 : PB w cl nc w1.heap.size (w4.heap.size + 1) w5.heap.size (w5.heap.size + 1) gl bl w6.heap.size (w6.heap.size + 1) (w6.heap.size + 1 + 1) (w6.heap.size + 1 + 1 + 1) W7.heap.size (.slice B nw cw) (.int .i64 (nc : Int)) W7.heap.size (startE calls).m (startE calls).a (startE calls).over (startE calls).left W7 := by
    have hl : (startE calls).m.length = (sz nc 1 1 0).toNat := by simp [startE, HNC.out]
    have Y57 := Y6.out.trans (Y7.mono (by omega))
    refine ⟨BX5.out.below Y57, (Y7.block _ (by omega)).trans N2.out, ?_, (Y7.block _ (by omega)).trans BX6.out, ⟨vs, (OS6.out.below Y7).rebase, ?_⟩, (y4.block _ (by omega)).trans ((y3.block _ (by omega)).trans ((y2.block _ (by omega)).trans q1)), ⟨Am, cm, none, 0, ?_, ?_, (y4.block _ (by omega)).trans ((y3.block _ (by omega)).trans q2), Ow.nil _ _, by simp [Value.ownBlock], ?_, by simp [Value.ownBlock]⟩, (y4.block _ (by omega)).trans q3, q4, Z5.out.trans (Y57.mono hws5), Nat.le_refl _⟩
    · have bg := BG5.out
      rw [World.size_alloc] at bg
      have := (bg.ow (base := w4.heap.size + 1) (Nat.le_refl _) (n := nc) (by simp) (by omega)).below Y57
      simpa [startE, HNC.out] using this
    · simp only [startE]
      exact HL.out.below (Z5.out.trans (Y57.mono hws5))
    · rw [hl]
      exact (Y7.block _ (by omega)).trans N1.out
    · intro hp
      obtain ⟨ad, e1, e2, e3⟩ := RM4.out (by simp [startE, HNC.out] at hp; simpa using hp)
      obtain ⟨ad', e1', e2', e3'⟩ := RM5.out (by simp [startE, HNC.out] at hp; simpa using hp)
      rw [e1] at e1'; cases e1'
      exact ⟨ad, e1, .inl (by omega), by omega, fun j u hu => (Y57.cell (p := ad.add j) (by rw [block_add]; exact e2')).trans (e3' j u (by simpa [startE, HNC.out] using hu))⟩
    · intro ad e
      obtain ⟨ad', e1', e2', _⟩ := RM5.out (by simpa using hmpos)
      rw [e] at e1'; cases e1'
      omega
  have P0 := Lib.hid p0
  have V0 := Lib.hid (show PV nc 0 (startE calls) from HNC.out ▸ PV.start HU.out)
  clear p0 q1 q2 q3 q4 e1 e2 e3 e4 y1 y2 y3 y4 Y7 N1 N2 Y6 RM4 RM5 BX5 Z5 OS6 BX6 BG5 hz1 hz2 hz21 hz3 hz4 hz5 hy0 hws5 hz6 hz7 hgl5 hgl6 hglb hbl6 hge Z HA
  generalize w6.heap.size + 1 + 1 + 1 = bn at ho P0 ⊢
  generalize w6.heap.size + 1 + 1 = bw at ho P0 ⊢
  generalize w6.heap.size + 1 = bo at ho P0 ⊢
  generalize w6.heap.size = bb at ho P0 ⊢
  generalize w5.heap.size + 1 = ba at ho P0 ⊢
  generalize w5.heap.size = bm at ho P0 ⊢
  generalize w4.heap.size + 1 = ga at ho P0 ⊢
  generalize w1.heap.size = bc at ho P0 ⊢
  generalize hzz : W7.heap.size = z at ho P0 ⊢
  have hzw : w.heap.size ≤ W7.heap.size := P0.out.be.size
  clear hzz
  refine range_pre2 (n₀ := w.heap.size) (p2 := 12) (gf := 46) (lb := #[.pointer (some ⟨bw, 0, none⟩), .pointer (some ⟨bn, 0, none⟩)]) (xs := val (nc : Int) who) rfl (enters_of Try.func46 (by kernel_rfl) rfl)
    (fun pre W => (∃ gf, PB w cl nc bc ga bm ba gl bl bb bo bw bn z (.slice B nw cw) (.int .i64 (nc : Int)) gf (pre.foldl (playE1 nc) (startE calls)).m (pre.foldl (playE1 nc) (startE calls)).a (pre.foldl (playE1 nc) (startE calls)).over (pre.foldl (playE1 nc) (startE calls)).left W) ∧ PV nc pre.length (pre.foldl (playE1 nc) (startE calls)))
    hzw ?abide ⟨⟨_, P0.out⟩, V0.out⟩ ?seq ?assign ?body ?done
  case abide =>
    rintro pre W W' ⟨⟨gf, h1⟩, h2⟩ hc
    exact ⟨⟨gf, h1.cl hc⟩, h2⟩
  case seq =>
    intro l' J' W' hJ' hI' hY' h0'
    refine turns1_in _ l' _ _ nw cw _ B who HNW.out (by omega) J' W' (fun pre W h => ?_) hY' h0'
    obtain ⟨⟨gf, h1⟩, _⟩ := hI' pre W h
    exact ⟨h1.tw, h1.tn, HW.out.below h1.be⟩
  case assign =>
    intro l' m' x W' K hK
    simp only [List.setIfInBounds_toArray, List.set_cons_succ, List.set_cons_zero] at hK ⊢
    gi_wp2
    exact hK
  case body =>
    rintro l' m' pre x rest W' ⟨⟨gf0, h1⟩, h4⟩ hx
    simp only [List.setIfInBounds_toArray, List.set_cons_succ, List.set_cons_zero]
    have hxm : x ∈ val (nc : Int) who := by rw [hx]; simp
    have hxr : 0 ≤ x ∧ x < (nc : Int) := by unfold val at hxm; simpa using (List.mem_filter.1 hxm).2
    obtain ⟨i, rfl⟩ := Int.eq_ofNat_of_zero_le hxr.1
    have hi : i < nc := by omega
    have hk : pre.length < 504 := by
      have := congrArg List.length hx
      have h5 : (val (nc : Int) who).length ≤ who.length := List.length_filter_le _ _
      rw [HNW.out] at h5
      simp at this
      omega
    clear hx hxm hxr
    have HS := Lib.hid (show ∃ s, pre.foldl (playE1 nc) (startE calls) = s from ⟨_, rfl⟩)
    obtain ⟨s, hs⟩ := HS.out
    rw [hs] at h1 h4
    obtain ⟨k, hkk⟩ : ∃ k, pre.length = k := ⟨_, rfl⟩
    rw [hkk] at h4 hk
    have HPS := Lib.hid hs
    have HPK := Lib.hid hkk
    clear HS hs hkk
    have hml : s.m.length = (sz nc 1 1 0).toNat := h4.ml
    have hmp : 0 < s.m.length := by rw [hml]; exact hmpos
    have p1 := h1.fresh hmp
    -- how the round ends
    have FIN := Lib.hid (show ∀ (X : World) (gf : Nat), KeepsOthers W' X → PB w cl nc bc ga bm ba gl bl bb bo bw bn z (.slice B nw cw) (.int .i64 (nc : Int)) gf (stepE nc (begE s i) i).m (stepE nc (begE s i) i).a (stepE nc (begE s i) i).over (stepE nc (begE s i) i).left X → ((∃ gf, PB w cl nc bc ga bm ba gl bl bb bo bw bn z (.slice B nw cw) (.int .i64 (nc : Int)) gf ((pre ++ [(i : Int)]).foldl (playE1 nc) (startE calls)).m ((pre ++ [(i : Int)]).foldl (playE1 nc) (startE calls)).a ((pre ++ [(i : Int)]).foldl (playE1 nc) (startE calls)).over ((pre ++ [(i : Int)]).foldl (playE1 nc) (startE calls)).left X) ∧ PV nc (pre ++ [(i : Int)]).length ((pre ++ [(i : Int)]).foldl (playE1 nc) (startE calls))) ∧ KeepsOthers W' X from fun X gf hX hP => by
      rw [List.foldl_append, HPS.out, List.foldl_cons, List.foldl_nil, List.length_append, HPK.out]
      have e : playE1 nc s (i : Int) = stepE nc (begE s i) i := by unfold playE1; rw [if_pos ⟨by omega, by omega⟩, Int.toNat_natCast]
      rw [e]
      exact ⟨⟨⟨gf, hP⟩, (h4.beg i).step i⟩, hX⟩)
    have HV := Lib.hid h4
    have hl : i < s.a.length := by rw [h4.al]; exact hi
    have hll : i < s.left.length := by rw [h4.ll]; exact hi
    have hul := Lib.hid h4.l5
    have hzW : z ≤ W'.heap.size := h1.zs
    have HLN := Lib.hid h4.ll
    have c7 := p1.ar.c7 hi
    have ka := p1.ab.cell
    have kb := p1.fb.cell
    have HO := Lib.hid ho
    obtain ⟨o1, o2, o3, o4, o5, o6, o6b, o7, o8, o9, oz⟩ := ho
    obtain ⟨f0, hf0⟩ : ∃ f, s.a.getD i fnE = f := ⟨_, rfl⟩
    have hfu := h4.uf i
    rw [hf0] at c7 hfu
    have HF0 := Lib.hid hf0
    have HFU := Lib.hid hfu
    have HML := Lib.hid hml
    have HMP := Lib.hid hmp
    clear hf0 h1 h4 o1 hfu hml hmp
    obtain ⟨o, p, q', v, xx, y, s'⟩ := f0
    obtain ⟨a0, a1, a2, a3, a4, a5, a6⟩ := c7
    simp only at a0 a1 a2 a3 a4 a5 a6
    gi_upto_region 10 with fail
    have PX := Lib.hid (p1.below (bel_alloc W' (.cells #[.int .i64 o, .int .i64 p, .int .i64 q', .int .u64 v, .int .u64 xx, .int .u64 y, .int .i64 s'] 34)))
    have BX := Lib.hid (show Bf (W'.alloc (.cells #[.int .i64 o, .int .i64 p, .int .i64 q', .int .u64 v, .int .u64 xx, .int .u64 y, .int .i64 s'] 34)) W'.heap.size ⟨o, p, q', v, xx, y, s'⟩ from heap_alloc_new _ _)
    have KX := Lib.hid (KeepsOthers.alloc W' (.cells #[.int .i64 o, .int .i64 p, .int .i64 q', .int .u64 v, .int .u64 xx, .int .u64 y, .int .i64 s'] 34))
    have kb := PX.out.fb.cell
    have hgX : W'.heap.size < (W'.alloc (.cells #[.int .i64 o, .int .i64 p, .int .i64 q', .int .u64 v, .int .u64 xx, .int .u64 y, .int .i64 s'] 34)).heap.size := by simp
    clear p1 a0 a1 a2 a3 a4 a5 a6 ka
    generalize W'.alloc (.cells #[.int .i64 o, .int .i64 p, .int .i64 q', .int .u64 v, .int .u64 xx, .int .u64 y, .int .i64 s'] 34) = X at PX BX KX kb hgX ⊢
    generalize W'.heap.size = gf at hzW PX BX hgX ⊢
    obtain ⟨a0, a1, a2, a3, a4, a5, a6⟩ := BX.out.cells
    by_cases hop : o = -1
    · obtain rfl : o = -1 := hop
      have e1 : ((-1 : Int) == -1) = true := rfl
      have hl5 : (s.left.getD i []).length ≤ 500 := hul.out _ (getD_memE hll)
      obtain ⟨LL, hLL⟩ : ∃ LL, s.left.getD i [] = LL := ⟨_, rfl⟩
      rw [hLL] at hl5
      have HLS := Lib.hid hLL
      have hBq : Bgq X w.heap.size bl gl nc cl i s.left LL := by
        obtain ⟨vs1, k1, k2⟩ := PX.out.lr
        refine ⟨PX.out.lb, vs1, k1, ?_⟩
        have e : s.left.set i LL = s.left := by
          rw [← hLL, List.getD_eq_getElem?_getD, List.getElem?_eq_getElem hll]
          exact List.set_getElem_self hll
        rw [e]; exact k2
      have HBQ := Lib.hid hBq
      obtain ⟨f1, l1, hx⟩ : ∃ f1 l1, nxtE (i : Int) LL = (f1, l1) := ⟨_, _, rfl⟩
      have hgo := begun_any X w.heap.size bl gl nc cl i s.left LL hBq hll HLN.out (by omega) (by have := HO.out.o1; omega) hl5
      rw [hx] at hgo
      have HGO := Lib.hid hgo
      have hfu := (nxtE_uf (i := (i : Int)) LL).1
      rw [hx] at hfu
      have HFU := Lib.hid hfu
      have hbeg : begE s i = ⟨s.m, s.a.set i f1, s.over, s.left.set i l1⟩ := by
        unfold begE
        rw [if_pos (by rw [HF0.out]), HLS.out, hx]
      have HBG := Lib.hid hbeg
      have HGI := Lib.hid (show (s.a.set i f1).getD i fnE = f1 from getE_eq hl _ _)
      clear hLL hBq hgo hx hfu hbeg hl5
      gi_wp2_with fail
      refine ⟨trivial, (fun h => by cases h), ?_⟩
      refine (CallsIn.inRound _ (callsIn_wide.2 HGO.out)).mono ?_
      rintro _ X2 ⟨rfl, hq2, kb2⟩
      have hgX2 : gf < X2.heap.size := Nat.lt_of_lt_of_le hgX kb2.size
      have P3 := Lib.hid (PX.out.setL HO.out kb2 hq2.row)
      have b3 := BX.out.kb kb2 (by omega)
      have K3 := Lib.hid (KX.out.trans (keeps_kb kb2 (fun o ho => by
        obtain ⟨o', ho', hc'⟩ := (HBQ.out.row.choose_spec.1).cells_own rfl
        rw [ho] at ho'; cases ho'; exact hc')))
      obtain ⟨r0, r1, r2, r3, r4, r5, r6⟩ := b3.cells
      have fr := b3.free
      have B3 := Lib.hid b3
      clear a0 a1 a2 a3 a4 a5 a6 kb kb2 hq2 hgX b3 e1
      gi_upto_region 12 with fail
      change Code.wpIn _ _ _ _ _ _ (pf X2 gf f1)
      have PY := Lib.hid (P3.out.setF HO.out hzW f1)
      have BY := Lib.hid (B3.out.pf f1)
      have KY := Lib.hid (K3.out.trans (keeps_pf X2 gf f1))
      have hgY : gf < (pf X2 gf f1).heap.size := by rw [pf_sizeE]; exact hgX2
      clear r0 r1 r2 r3 r4 r5 r6 fr P3 B3 K3 hgX2
      generalize pf X2 gf f1 = Y at PY BY KY hgY ⊢
      generalize hlt : s.left.set i l1 = lt at PY HBG
      have HST := Lib.hid (show ∀ m2 g, evS nc 1 1 0 s.m f1 = (m2, g) → stepE nc (begE s i) i = if g.res = 0 then ⟨m2, s.a.set i g, s.over, lt⟩ else ⟨m2, s.a.set i fnE, s.over ++ [g], lt⟩ from fun m2 g hd => by
        rw [HBG.out]; unfold stepE; simp only [HGI.out, hd, List.set_set])
      clear hlt HBG HGI HGO HLS HBQ PX BX KX
      obtain ⟨Am2, cm2, Ao2, co2, k1, k2, k3, k4, k6⟩ := PY.out.mo
      have km := k1.cell
      obtain ⟨_, b0, b1, b2, b3⟩ := PY.out.cb
      obtain ⟨a0, a1, a2, a3, a4, a5, a6⟩ := BY.out.cells
      obtain ⟨m2, g, hd⟩ : ∃ m2 g, evS nc 1 1 0 s.m f1 = (m2, g) := ⟨_, _, rfl⟩
      have hst := HST.out m2 g hd
      have hl2 : m2.length = s.m.length := by have := evS_len nc 1 1 0 s.m f1; rw [hd] at this; exact this
      have hml5 : s.m.length ≤ 500 := by rw [HML.out]; have h1 := sz_lim nc 1 1 0; omega
      obtain ⟨kn, hkn⟩ : ∃ kn, s.m.length = kn := ⟨_, rfl⟩
      rw [hkn] at km hml5 hl2
      have HGO2 := Lib.hid (estep_n (c := cm2) k2.rd hkn hml5 HV.out.um HFU.out hd)
      have HL2 := Lib.hid hl2
      have HSS := Lib.hid hst
      have HMP2 := Lib.hid (show 0 < m2.length by rw [hl2, ← hkn]; exact HMP.out)
      clear k1 k2 k3 k4 k6 hd hst hl2 hml5 hkn HST HFU
      gi_wp2_with fail
      refine ⟨trivial, (fun h => by cases h), ?_⟩
      refine (CallsIn.inRound _ (callsIn_wide.2 HGO2.out)).mono ?_
      rintro _ X3 ⟨A3, c3, rfl, hr3, z3⟩
      have p3 := PY.out.setM (c' := c3) HO.out hgY z3 hr3 HMP2.out
      rw [HL2.out] at p3
      obtain ⟨Am3, cm3, _, _, k1, _⟩ := (PY.out.below z3).mo
      have km3 := k1.cell
      have fm3 := k1.frozen
      have lm3 := k1.lt
      have b3 := BY.out.below z3 hgY
      have hg3 : gf < X3.heap.size := Nat.lt_of_lt_of_le hgY z3.size
      have hgm : gf ≠ bm := by omega
      obtain ⟨r0, r1, r2, r3, r4, r5, r6⟩ := b3.cells
      have fr := b3.free
      have P4 := Lib.hid (p3.setF HO.out hzW g)
      have B4 := Lib.hid ((b3.oth (i := 0) hgm (.slice A3 kn c3)).pf g)
      have K4 := Lib.hid (((KY.out.trans (keeps_below z3)).trans (KeepsOthers.setCell X3 ⟨bm, 0, none⟩ (.slice A3 kn c3))).trans (keeps_pf (X3.setCell ⟨bm, 0, none⟩ (.slice A3 kn c3)) gf g))
      have hg4 : gf < (pf (X3.setCell ⟨bm, 0, none⟩ (.slice A3 kn c3)) gf g).heap.size := by rw [pf_sizeE]; simpa using hg3
      clear z3 hr3 p3 k1 b3 PY BY KY hgY HGO2 b0 b1 b2 km a0 a1 a2 a3 a4 a5 a6
      gi_upto_region 13 with fail
      change Code.wpIn _ _ _ _ _ _ (pf (X3.setCell ⟨bm, 0, none⟩ (.slice A3 kn c3)) gf g)
      clear r0 r1 r2 r3 r4 r5 r6 fr km3 fm3 lm3 hg3
      generalize pf (X3.setCell ⟨bm, 0, none⟩ (.slice A3 kn c3)) gf g = X4 at P4 B4 K4 hg4 ⊢
      obtain ⟨a0, a1, a2, a3, a4, a5, a6⟩ := B4.out.cells
      gi_wp2_with fail
      refine ⟨trivial, (fun h => by cases h), ?_⟩
      by_cases hr : g.res = 0
      · have hb : (g.res != 0) = false := by simp [hr]
        refine (CallsIn.inRound _ (callsIn_wide.2 (Tells.of (over_any g _) (v' := .bool false) (by rw [hb])))).mono ?_
        rintro _ X5 ⟨rfl, z5⟩
        have P5 := Lib.hid (P4.out.below z5)
        have b5 := B4.out.below z5 hg4
        have K5 := Lib.hid (K4.out.trans (keeps_below z5))
        have hg5 : gf < X5.heap.size := Nat.lt_of_lt_of_le hg4 z5.size
        have HR := Lib.hid hr
        clear z5 hb hr P4 B4 K4 hg4 a0 a1 a2 a3 a4 a5 a6
        obtain ⟨a0, a1, a2, a3, a4, a5, a6⟩ := b5.cells
        have ka := P5.out.ab.cell
        obtain ⟨r0, r1, r2, r3, r4, r5, r6⟩ := P5.out.ar.c7 hi
        have fr := P5.out.ar.free
        have lg : ga < X5.heap.size := by omega
        clear b5
        gi_wp2
        have hst := HSS.out
        rw [if_pos HR.out] at hst
        have h := FIN.out (pk7 X5 ga (i * 7) g) gf (K5.out.trans (keeps_pk7 X5 ga (i * 7) g)) (by rw [hst]; exact P5.out.setA HO.out hi g)
        exact onP_mk h.1 h.2
      · have hb : (g.res != 0) = true := by simp [hr]
        refine (CallsIn.inRound _ (callsIn_wide.2 (Tells.of (over_any g _) (v' := .bool true) (by rw [hb])))).mono ?_
        rintro _ X5 ⟨rfl, z5⟩
        have P5 := Lib.hid (P4.out.below z5)
        have b5 := B4.out.below z5 hg4
        have K5 := Lib.hid (K4.out.trans (keeps_below z5))
        have hg5 : gf < X5.heap.size := Nat.lt_of_lt_of_le hg4 z5.size
        have HR := Lib.hid hr
        clear z5 hb hr P4 B4 K4 hg4 a0 a1 a2 a3 a4 a5 a6
        have hov : s.over.length ≤ 504 := by have := HV.out.ol; omega
        obtain ⟨Am5, cm5, Ao5, co5, k1, k2, k3, k4, k6, k7, k8⟩ := P5.out.mo
        have ko := k3.cell
        obtain ⟨A6, c6, X6, hrun, hown, hgr, hb6, hblk⟩ := app_one k4 g (by omega) P5.out.zs
        have P7 := Lib.hid (P5.out.setO HO.out hg5 k1 k2 k3 k6 k7 k8 HMP2.out hown hgr hblk hb6)
        have x6 : Boxed X6 bo 28 (.slice Ao5 s.over.length co5) := (hb6.block bo (by omega)).trans k3
        have ko6 := x6.cell
        have fo6 := x6.frozen
        have lo6 := x6.lt
        have b7 : Bf (X6.setCell ⟨bo, 0, none⟩ (.slice A6 (s.over.length + 1) c6)) gf g := (Below.heap_setCell X6 ⟨bo, 0, none⟩ _ gf (by simp only; omega)).trans ((hgr.block gf (by simp; omega) (fun e => k8 _ e.symm rfl)).trans ((Below.heap_alloc _ _ _ hg5).trans b5))
        have K7 := Lib.hid (((K5.out.trans (KeepsOthers.alloc X5 (.cells #[.int .i64 g.op, .int .i64 g.pc, .int .i64 g.who, .int .u64 g.val, .int .u64 g.x, .int .u64 g.y, .int .i64 g.res] 34))).trans (KeepsOthers.of_grownBy hgr (fun j o e hj => by
          obtain ⟨o', ho', hc'⟩ := (k4.alloc (.cells #[.int .i64 g.op, .int .i64 g.pc, .int .i64 g.who, .int .u64 g.val, .int .u64 g.x, .int .u64 g.y, .int .i64 g.res] 34)).cells_own e
          rw [hj] at ho'; cases ho'; exact hc'))).trans (KeepsOthers.setCell X6 ⟨bo, 0, none⟩ (.slice A6 (s.over.length + 1) c6)))
        have hg6 : gf < X6.heap.size := Nat.lt_of_lt_of_le hg5 hb6.size
        have RUN := Lib.hid hrun
        obtain ⟨a0, a1, a2, a3, a4, a5, a6⟩ := b5.cells
        have B7 := Lib.hid b7
        clear k1 k2 k3 k4 k6 k7 k8 hrun hown hgr hb6 hblk x6 b5 b7 P5 K5
        gi_wp2_with (gi_at_builtin; (with_reducible refine wpListIn_append_fr RUN.out ?_ ?_ ?_ ?_); exact ⟨_, _, rfl, rfl, rfl⟩; rfl; rfl)
        refine ⟨trivial, (fun h => by cases h), ?_⟩
        change CallsIn _ _ _ _ _ (X6.setCell ⟨bo, 0, none⟩ (.slice A6 (s.over.length + 1) c6)) _
        have hg7 : gf < (X6.setCell ⟨bo, 0, none⟩ (.slice A6 (s.over.length + 1) c6)).heap.size := by simpa using hg6
        generalize X6.setCell ⟨bo, 0, none⟩ (.slice A6 (s.over.length + 1) c6) = X8 at P7 B7 K7 hg7 ⊢
        clear ko ko6 fo6 lo6 RUN a0 a1 a2 a3 a4 a5 a6 hg5 hg6
        refine (CallsIn.inRound _ (callsIn_wide.2 (nocall_any _))).mono ?_
        rintro _ X9 ⟨rfl, z9⟩
        have p9 := P7.out.below z9
        have P9 := Lib.hid (p9.setF HO.out hzW fnE)
        have b9 := B7.out.below z9 hg7
        have K9 := Lib.hid (((K7.out.trans (keeps_below z9)).trans (keeps_pf X9 gf fnE)).trans (keeps_pk7 (pf X9 gf fnE) ga (i * 7) fnE))
        have ka9 := p9.ab.cell
        have hg9 : gf < X9.heap.size := Nat.lt_of_lt_of_le hg7 z9.size
        obtain ⟨a0, a1, a2, a3, a4, a5, a6⟩ := b9.cells
        have fq := b9.free
        obtain ⟨r0, r1, r2, r3, r4, r5, r6⟩ := p9.ar.c7 hi
        have fr := p9.ar.free
        have lg : ga < X9.heap.size := by omega
        clear z9 p9 b9 P7 B7 K7 hg7
        gi_wp2
        have hst := HSS.out
        rw [if_neg HR.out] at hst
        have h := FIN.out (pk7 (pf X9 gf fnE) ga (i * 7) fnE) gf K9.out (by rw [hst]; exact P9.out.setA HO.out hi fnE)
        exact onP_mk h.1 h.2
    · have e1 : (o == -1) = false := by simpa using hop
      have HST := Lib.hid (show ∀ m2 g, evS nc 1 1 0 s.m ⟨o, p, q', v, xx, y, s'⟩ = (m2, g) → stepE nc (begE s i) i = if g.res = 0 then ⟨m2, s.a.set i g, s.over, s.left⟩ else ⟨m2, s.a.set i fnE, s.over ++ [g], s.left⟩ from fun m2 g hd => by
        have e0 : begE s i = s := by unfold begE; rw [if_neg (by rw [HF0.out]; exact hop)]
        rw [e0]; unfold stepE; rw [HF0.out, hd])
      clear hop
      gi_upto_region 12 with fail
      clear a0 a1 a2 a3 a4 a5 a6 kb e1
      have PY := PX
      have BY := BX
      have KY := KX
      have hgY := hgX
      clear PX BX KX hgX
      obtain ⟨Am2, cm2, Ao2, co2, k1, k2, k3, k4, k6⟩ := PY.out.mo
      have km := k1.cell
      obtain ⟨_, b0, b1, b2, b3⟩ := PY.out.cb
      obtain ⟨a0, a1, a2, a3, a4, a5, a6⟩ := BY.out.cells
      obtain ⟨m2, g, hd⟩ : ∃ m2 g, evS nc 1 1 0 s.m ⟨o, p, q', v, xx, y, s'⟩ = (m2, g) := ⟨_, _, rfl⟩
      have hst := HST.out m2 g hd
      have hl2 : m2.length = s.m.length := by have := evS_len nc 1 1 0 s.m ⟨o, p, q', v, xx, y, s'⟩; rw [hd] at this; exact this
      have hml5 : s.m.length ≤ 500 := by rw [HML.out]; have h1 := sz_lim nc 1 1 0; omega
      obtain ⟨kn, hkn⟩ : ∃ kn, s.m.length = kn := ⟨_, rfl⟩
      rw [hkn] at km hml5 hl2
      have HGO2 := Lib.hid (estep_n (c := cm2) k2.rd hkn hml5 HV.out.um HFU.out hd)
      have HL2 := Lib.hid hl2
      have HSS := Lib.hid hst
      have HMP2 := Lib.hid (show 0 < m2.length by rw [hl2, ← hkn]; exact HMP.out)
      clear k1 k2 k3 k4 k6 hd hst hl2 hml5 hkn HST HFU
      gi_wp2_with fail
      refine ⟨trivial, (fun h => by cases h), ?_⟩
      refine (CallsIn.inRound _ (callsIn_wide.2 HGO2.out)).mono ?_
      rintro _ X3 ⟨A3, c3, rfl, hr3, z3⟩
      have p3 := PY.out.setM (c' := c3) HO.out hgY z3 hr3 HMP2.out
      rw [HL2.out] at p3
      obtain ⟨Am3, cm3, _, _, k1, _⟩ := (PY.out.below z3).mo
      have km3 := k1.cell
      have fm3 := k1.frozen
      have lm3 := k1.lt
      have b3 := BY.out.below z3 hgY
      have hg3 : gf < X3.heap.size := Nat.lt_of_lt_of_le hgY z3.size
      have hgm : gf ≠ bm := by omega
      obtain ⟨r0, r1, r2, r3, r4, r5, r6⟩ := b3.cells
      have fr := b3.free
      have P4 := Lib.hid (p3.setF HO.out hzW g)
      have B4 := Lib.hid ((b3.oth (i := 0) hgm (.slice A3 kn c3)).pf g)
      have K4 := Lib.hid (((KY.out.trans (keeps_below z3)).trans (KeepsOthers.setCell X3 ⟨bm, 0, none⟩ (.slice A3 kn c3))).trans (keeps_pf (X3.setCell ⟨bm, 0, none⟩ (.slice A3 kn c3)) gf g))
      have hg4 : gf < (pf (X3.setCell ⟨bm, 0, none⟩ (.slice A3 kn c3)) gf g).heap.size := by rw [pf_sizeE]; simpa using hg3
      clear z3 hr3 p3 k1 b3 PY BY KY hgY HGO2 b0 b1 b2 km a0 a1 a2 a3 a4 a5 a6
      gi_upto_region 13 with fail
      change Code.wpIn _ _ _ _ _ _ (pf (X3.setCell ⟨bm, 0, none⟩ (.slice A3 kn c3)) gf g)
      clear r0 r1 r2 r3 r4 r5 r6 fr km3 fm3 lm3 hg3
      generalize pf (X3.setCell ⟨bm, 0, none⟩ (.slice A3 kn c3)) gf g = X4 at P4 B4 K4 hg4 ⊢
      obtain ⟨a0, a1, a2, a3, a4, a5, a6⟩ := B4.out.cells
      gi_wp2_with fail
      refine ⟨trivial, (fun h => by cases h), ?_⟩
      by_cases hr : g.res = 0
      · have hb : (g.res != 0) = false := by simp [hr]
        refine (CallsIn.inRound _ (callsIn_wide.2 (Tells.of (over_any g _) (v' := .bool false) (by rw [hb])))).mono ?_
        rintro _ X5 ⟨rfl, z5⟩
        have P5 := Lib.hid (P4.out.below z5)
        have b5 := B4.out.below z5 hg4
        have K5 := Lib.hid (K4.out.trans (keeps_below z5))
        have hg5 : gf < X5.heap.size := Nat.lt_of_lt_of_le hg4 z5.size
        have HR := Lib.hid hr
        clear z5 hb hr P4 B4 K4 hg4 a0 a1 a2 a3 a4 a5 a6
        obtain ⟨a0, a1, a2, a3, a4, a5, a6⟩ := b5.cells
        have ka := P5.out.ab.cell
        obtain ⟨r0, r1, r2, r3, r4, r5, r6⟩ := P5.out.ar.c7 hi
        have fr := P5.out.ar.free
        have lg : ga < X5.heap.size := by omega
        clear b5
        gi_wp2
        have hst := HSS.out
        rw [if_pos HR.out] at hst
        have h := FIN.out (pk7 X5 ga (i * 7) g) gf (K5.out.trans (keeps_pk7 X5 ga (i * 7) g)) (by rw [hst]; exact P5.out.setA HO.out hi g)
        exact onP_mk h.1 h.2
      · have hb : (g.res != 0) = true := by simp [hr]
        refine (CallsIn.inRound _ (callsIn_wide.2 (Tells.of (over_any g _) (v' := .bool true) (by rw [hb])))).mono ?_
        rintro _ X5 ⟨rfl, z5⟩
        have P5 := Lib.hid (P4.out.below z5)
        have b5 := B4.out.below z5 hg4
        have K5 := Lib.hid (K4.out.trans (keeps_below z5))
        have hg5 : gf < X5.heap.size := Nat.lt_of_lt_of_le hg4 z5.size
        have HR := Lib.hid hr
        clear z5 hb hr P4 B4 K4 hg4 a0 a1 a2 a3 a4 a5 a6
        have hov : s.over.length ≤ 504 := by have := HV.out.ol; omega
        obtain ⟨Am5, cm5, Ao5, co5, k1, k2, k3, k4, k6, k7, k8⟩ := P5.out.mo
        have ko := k3.cell
        obtain ⟨A6, c6, X6, hrun, hown, hgr, hb6, hblk⟩ := app_one k4 g (by omega) P5.out.zs
        have P7 := Lib.hid (P5.out.setO HO.out hg5 k1 k2 k3 k6 k7 k8 HMP2.out hown hgr hblk hb6)
        have x6 : Boxed X6 bo 28 (.slice Ao5 s.over.length co5) := (hb6.block bo (by omega)).trans k3
        have ko6 := x6.cell
        have fo6 := x6.frozen
        have lo6 := x6.lt
        have b7 : Bf (X6.setCell ⟨bo, 0, none⟩ (.slice A6 (s.over.length + 1) c6)) gf g := (Below.heap_setCell X6 ⟨bo, 0, none⟩ _ gf (by simp only; omega)).trans ((hgr.block gf (by simp; omega) (fun e => k8 _ e.symm rfl)).trans ((Below.heap_alloc _ _ _ hg5).trans b5))
        have K7 := Lib.hid (((K5.out.trans (KeepsOthers.alloc X5 (.cells #[.int .i64 g.op, .int .i64 g.pc, .int .i64 g.who, .int .u64 g.val, .int .u64 g.x, .int .u64 g.y, .int .i64 g.res] 34))).trans (KeepsOthers.of_grownBy hgr (fun j o e hj => by
          obtain ⟨o', ho', hc'⟩ := (k4.alloc (.cells #[.int .i64 g.op, .int .i64 g.pc, .int .i64 g.who, .int .u64 g.val, .int .u64 g.x, .int .u64 g.y, .int .i64 g.res] 34)).cells_own e
          rw [hj] at ho'; cases ho'; exact hc'))).trans (KeepsOthers.setCell X6 ⟨bo, 0, none⟩ (.slice A6 (s.over.length + 1) c6)))
        have hg6 : gf < X6.heap.size := Nat.lt_of_lt_of_le hg5 hb6.size
        have RUN := Lib.hid hrun
        obtain ⟨a0, a1, a2, a3, a4, a5, a6⟩ := b5.cells
        have B7 := Lib.hid b7
        clear k1 k2 k3 k4 k6 k7 k8 hrun hown hgr hb6 hblk x6 b5 b7 P5 K5
        gi_wp2_with (gi_at_builtin; (with_reducible refine wpListIn_append_fr RUN.out ?_ ?_ ?_ ?_); exact ⟨_, _, rfl, rfl, rfl⟩; rfl; rfl)
        refine ⟨trivial, (fun h => by cases h), ?_⟩
        change CallsIn _ _ _ _ _ (X6.setCell ⟨bo, 0, none⟩ (.slice A6 (s.over.length + 1) c6)) _
        have hg7 : gf < (X6.setCell ⟨bo, 0, none⟩ (.slice A6 (s.over.length + 1) c6)).heap.size := by simpa using hg6
        generalize X6.setCell ⟨bo, 0, none⟩ (.slice A6 (s.over.length + 1) c6) = X8 at P7 B7 K7 hg7 ⊢
        clear ko ko6 fo6 lo6 RUN a0 a1 a2 a3 a4 a5 a6 hg5 hg6
        refine (CallsIn.inRound _ (callsIn_wide.2 (nocall_any _))).mono ?_
        rintro _ X9 ⟨rfl, z9⟩
        have p9 := P7.out.below z9
        have P9 := Lib.hid (p9.setF HO.out hzW fnE)
        have b9 := B7.out.below z9 hg7
        have K9 := Lib.hid (((K7.out.trans (keeps_below z9)).trans (keeps_pf X9 gf fnE)).trans (keeps_pk7 (pf X9 gf fnE) ga (i * 7) fnE))
        have ka9 := p9.ab.cell
        have hg9 : gf < X9.heap.size := Nat.lt_of_lt_of_le hg7 z9.size
        obtain ⟨a0, a1, a2, a3, a4, a5, a6⟩ := b9.cells
        have fq := b9.free
        obtain ⟨r0, r1, r2, r3, r4, r5, r6⟩ := p9.ar.c7 hi
        have fr := p9.ar.free
        have lg : ga < X9.heap.size := by omega
        clear z9 p9 b9 P7 B7 K7 hg7
        gi_wp2
        have hst := HSS.out
        rw [if_neg HR.out] at hst
        have h := FIN.out (pk7 (pf X9 gf fnE) ga (i * 7) fnE) gf K9.out (by rw [hst]; exact P9.out.setA HO.out hi fnE)
        exact onP_mk h.1 h.2
  case done =>
    rintro D' W hD ⟨⟨gf, h1⟩, h2⟩ hK
    rw [valE_fold] at h1 h2
    have e : calls.length = nc := HNC.out
    have e2 : who.foldl (playE1 nc) (startE calls) = playE calls who := by unfold playE; rw [e]
    rw [e2] at h1 h2
    have ka := h1.ab.cell
    obtain ⟨Am2, cm2, Ao2, co2, k1, k2, k3, k4, k6⟩ := h1.mo
    have km := k1.cell
    have ko := k3.cell
    have H1 := Lib.hid h1
    have H2 := Lib.hid k2.rd
    have H4 := Lib.hid k4
    have H5 := Lib.hid (ow_cap k4)
    have HK2 := Lib.hid hK
    have HAL := Lib.hid h2.al
    clear h1 h2 k1 k2 k3 k4 k6 hK e e2 P0 V0
    gi_wp2
    gi_region
    all_goals
      gi_wp2
      refine leaves_mark (n₀ := w.heap.size) D' _ HK2.out (by omega) ?_
      intro W2 hc _ _
      have hc2 : Cl w.heap.size W W2 := Cl.trans ⟨(Below.refl _ _).drew, fun _ _ h _ => h⟩ hc
      have P2 := H1.out.cl hc2
      refine ⟨.tuple #[.slice Am2 (playE calls who).m.length cm2, .slice Ao2 (playE calls who).over.length co2, .slice (some ⟨ga, 0, none⟩) nc nc], by simp [results, Try.results11, go_sem]; try rfl, Am2, cm2, Ao2, co2, _, nc, by rw [HAL.out], ?_, ?_, ?_, ?_, ?_, P2.be⟩
      · exact rd_cl H2.out hc2
      · exact (H4.out.cl hc2).pr
      · exact H5.out
      · exact P2.ar.pr
      · rw [HAL.out]; exact Nat.le_refl _
end Go.Proofs.Ytgemaeibmgkneaa
