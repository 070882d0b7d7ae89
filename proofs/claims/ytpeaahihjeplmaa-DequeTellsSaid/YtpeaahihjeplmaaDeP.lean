/- Contract of Play. -/
import Derived.Test.YtpeaahihjeplmaaDeM
namespace Go.Proofs.Ytpeaahihjeplmaa
open Go.RowKit Go.Deep Go.Shelf
attribute [local go_sem] Oper.semAt_some run_store_func run_makeFunc
theorem seven (w : World) (t1 t2 t3 t4 t5 t6 t7 : Nat) (v1 v2 v3 v4 v5 v6 v7 : Value) :
    Boxed (((((((w.alloc (.cells #[v1] t1)).alloc (.cells #[v2] t2)).alloc (.cells #[v3] t3)).alloc (.cells #[v4] t4)).alloc (.cells #[v5] t5)).alloc (.cells #[v6] t6)).alloc (.cells #[v7] t7)) w.heap.size t1 v1 ∧
    Boxed (((((((w.alloc (.cells #[v1] t1)).alloc (.cells #[v2] t2)).alloc (.cells #[v3] t3)).alloc (.cells #[v4] t4)).alloc (.cells #[v5] t5)).alloc (.cells #[v6] t6)).alloc (.cells #[v7] t7)) (w.heap.size + 1) t2 v2 ∧
    Boxed (((((((w.alloc (.cells #[v1] t1)).alloc (.cells #[v2] t2)).alloc (.cells #[v3] t3)).alloc (.cells #[v4] t4)).alloc (.cells #[v5] t5)).alloc (.cells #[v6] t6)).alloc (.cells #[v7] t7)) (w.heap.size + 1 + 1) t3 v3 ∧
    Boxed (((((((w.alloc (.cells #[v1] t1)).alloc (.cells #[v2] t2)).alloc (.cells #[v3] t3)).alloc (.cells #[v4] t4)).alloc (.cells #[v5] t5)).alloc (.cells #[v6] t6)).alloc (.cells #[v7] t7)) (w.heap.size + 1 + 1 + 1) t4 v4 ∧
    Boxed (((((((w.alloc (.cells #[v1] t1)).alloc (.cells #[v2] t2)).alloc (.cells #[v3] t3)).alloc (.cells #[v4] t4)).alloc (.cells #[v5] t5)).alloc (.cells #[v6] t6)).alloc (.cells #[v7] t7)) (w.heap.size + 1 + 1 + 1 + 1) t5 v5 ∧
    Boxed (((((((w.alloc (.cells #[v1] t1)).alloc (.cells #[v2] t2)).alloc (.cells #[v3] t3)).alloc (.cells #[v4] t4)).alloc (.cells #[v5] t5)).alloc (.cells #[v6] t6)).alloc (.cells #[v7] t7)) (w.heap.size + 1 + 1 + 1 + 1 + 1) t6 v6 ∧
    Boxed (((((((w.alloc (.cells #[v1] t1)).alloc (.cells #[v2] t2)).alloc (.cells #[v3] t3)).alloc (.cells #[v4] t4)).alloc (.cells #[v5] t5)).alloc (.cells #[v6] t6)).alloc (.cells #[v7] t7)) (w.heap.size + 1 + 1 + 1 + 1 + 1 + 1) t7 v7 ∧
    Below w.heap.size w (((((((w.alloc (.cells #[v1] t1)).alloc (.cells #[v2] t2)).alloc (.cells #[v3] t3)).alloc (.cells #[v4] t4)).alloc (.cells #[v5] t5)).alloc (.cells #[v6] t6)).alloc (.cells #[v7] t7)) ∧
    (((((((w.alloc (.cells #[v1] t1)).alloc (.cells #[v2] t2)).alloc (.cells #[v3] t3)).alloc (.cells #[v4] t4)).alloc (.cells #[v5] t5)).alloc (.cells #[v6] t6)).alloc (.cells #[v7] t7)).heap.size = w.heap.size + 1 + 1 + 1 + 1 + 1 + 1 + 1 := by
  have n1 := Boxed.new w t1 v1
  generalize hw1 : w.alloc (.cells #[v1] t1) = u1 at *
  have s1 : u1.heap.size = w.heap.size + 1 := by rw [← hw1]; simp
  have b1 : Below w.heap.size w u1 := by rw [← hw1]; exact (Below.refl _ _).alloc (Nat.le_refl _) _
  clear hw1
  have n2 := Boxed.new u1 t2 v2
  generalize hw2 : u1.alloc (.cells #[v2] t2) = u2 at *
  have s2 : u2.heap.size = u1.heap.size + 1 := by rw [← hw2]; simp
  have b2 : Below u1.heap.size u1 u2 := by rw [← hw2]; exact (Below.refl _ _).alloc (Nat.le_refl _) _
  clear hw2
  have n3 := Boxed.new u2 t3 v3
  generalize hw3 : u2.alloc (.cells #[v3] t3) = u3 at *
  have s3 : u3.heap.size = u2.heap.size + 1 := by rw [← hw3]; simp
  have b3 : Below u2.heap.size u2 u3 := by rw [← hw3]; exact (Below.refl _ _).alloc (Nat.le_refl _) _
  clear hw3
  have n4 := Boxed.new u3 t4 v4
  generalize hw4 : u3.alloc (.cells #[v4] t4) = u4 at *
  have s4 : u4.heap.size = u3.heap.size + 1 := by rw [← hw4]; simp
  have b4 : Below u3.heap.size u3 u4 := by rw [← hw4]; exact (Below.refl _ _).alloc (Nat.le_refl _) _
  clear hw4
  have n5 := Boxed.new u4 t5 v5
  generalize hw5 : u4.alloc (.cells #[v5] t5) = u5 at *
  have s5 : u5.heap.size = u4.heap.size + 1 := by rw [← hw5]; simp
  have b5 : Below u4.heap.size u4 u5 := by rw [← hw5]; exact (Below.refl _ _).alloc (Nat.le_refl _) _
  clear hw5
  have n6 := Boxed.new u5 t6 v6
  generalize hw6 : u5.alloc (.cells #[v6] t6) = u6 at *
  have s6 : u6.heap.size = u5.heap.size + 1 := by rw [← hw6]; simp
  have b6 : Below u5.heap.size u5 u6 := by rw [← hw6]; exact (Below.refl _ _).alloc (Nat.le_refl _) _
  clear hw6
  have n7 := Boxed.new u6 t7 v7
  generalize hw7 : u6.alloc (.cells #[v7] t7) = u7 at *
  have s7 : u7.heap.size = u6.heap.size + 1 := by rw [← hw7]; simp
  have b7 : Below u6.heap.size u6 u7 := by rw [← hw7]; exact (Below.refl _ _).alloc (Nat.le_refl _) _
  clear hw7
  rw [s1] at n2
  rw [s2, s1] at n3
  rw [s3, s2, s1] at n4
  rw [s4, s3, s2, s1] at n5
  rw [s5, s4, s3, s2, s1] at n6
  rw [s6, s5, s4, s3, s2, s1] at n7
  have f := fun {k : Nat} {ty : Nat} {v : Value} {a b : World} (h : Boxed a k ty v) (hb : Below a.heap.size a b) => (show Boxed b k ty v from (hb.block _ h.lt).trans h)
  refine ⟨f (f (f (f (f (f n1 b2) b3) b4) b5) b6) b7, f (f (f (f (f n2 b3) b4) b5) b6) b7, f (f (f (f n3 b4) b5) b6) b7, f (f (f n4 b5) b6) b7, f (f n5 b6) b7, f n6 b7, n7, ?_, by omega⟩
  exact (((((b1.trans (b2.mono (by omega))).trans (b3.mono (by omega))).trans (b4.mono (by omega))).trans (b5.mono (by omega))).trans (b6.mono (by omega))).trans (b7.mono (by omega))
/-- What a play leaves. -/
def RetPl (w : World) (s : PS) (e : Ending) (w' : World) : Prop :=
  ∃ Am cm Ao co Aa ca, e = .returned (.tuple #[.slice Am s.m.length cm, .slice Ao s.over.length co, .slice Aa s.a.length ca]) ∧ Rd w' Am s.m ∧ Pr w'.heap.size w' Ao s.over ∧ s.over.length ≤ co ∧ Pr w'.heap.size w' Aa s.a ∧ Below w.heap.size w w'
set_option maxRecDepth 100000 in
set_option maxHeartbeats 8000000 in
theorem play_in (n : Nat) (D : Int) (t : Nat) (ht : t ≤ 8) (A B : Option Addr) (ca cw no nw : Nat) (own : List Fr) (who : List Int) (w : World) (hP : Pr w.heap.size w A own) (hW : Ri w B who) (hca : no ≤ ca) (hno : own.length = no) (hnw : who.length = nw) (hw5 : nw ≤ 504) (hm : may 1 D 1 0 = true) (hu : ∀ f ∈ own, UF f) :
    CallsIn Fence.wide n Try.prog 13 #[.int .i64 D, .int .i64 t, .slice A no ca, .slice B nw cw] w (RetPl w (play D t own who)) := by
  have HP := Lib.hid hP
  have HW := Lib.hid hW
  have HM := Lib.hid hm
  have HU := Lib.hid hu
  have HNO := Lib.hid hno
  have HNW := Lib.hid hnw
  have t0 : decide ((t : Int) < 0) = false := decide_eq_false (by omega)
  have t1 : decide ((t : Int) > 8) = false := decide_eq_false (by omega)
  clear hP hW hm hu hno hnw
  refine callsIn_of_wp_marks Try.func13 rfl trivial ?_ rfl
  simp only [Try.ntmps13, List.size_toArray, List.length_cons, List.length_nil, Nat.reduceAdd, Nat.reduceSub, Array.replicate_succ, Array.replicate_zero, List.push_toArray, List.append_toArray, List.nil_append, List.cons_append]
  gi_wp2_with fail
  refine ⟨trivial, (fun h => by cases h), ?_⟩
  refine (callsIn_wide.2 (layout_any D _)).mono ?_
  rintro _ w1 ⟨rfl, z1⟩
  have Z := Lib.hid z1
  have hz1 := z1.size
  clear z1
  gi_wp2_with fail
  refine ⟨trivial, (fun h => by cases h), ?_⟩
  have bx := Bx.mk w1 1 D 1 0 23
  have hb1 : Below w.heap.size w (w1.alloc (.cells #[.int .i64 1, .int .i64 D, .int .i64 1, .int .i64 0] 23)) := Z.out.alloc hz1 _
  refine (callsIn_wide.2 (Tells.of (may_any 1 D 1 0 _) (v' := .bool true) (by rw [HM.out]))).mono ?_
  rintro _ w2 ⟨rfl, z2⟩
  have Z2 := Lib.hid (hb1.trans (z2.mono (by have := hb1.size; omega)))
  have BX2 := Lib.hid (bx.below z2)
  have hz2 := Z2.out.size
  have hz21 : w1.heap.size + 1 ≤ w2.heap.size := by have := z2.size; simpa using this
  clear z2 bx hb1
  obtain ⟨_, b0, b1, b2, b3⟩ := BX2.out
  gi_wp2_with fail
  refine ⟨trivial, (fun h => by cases h), ?_⟩
  refine (callsIn_wide.2 (new_any 1 D 1 0 _)).mono ?_
  rintro _ w3 ⟨Am, cm, rfl, rm, z3⟩
  have Z3 := Lib.hid (Z2.out.trans (z3.mono hz2))
  have BX3 := Lib.hid (BX2.out.below z3)
  have RM3 := Lib.hid rm
  have hz3 := z3.size
  clear z3 rm b0 b1 b2 b3 BX2 Z2
  gi_wp2_with fail
  refine ⟨trivial, (fun h => by cases h), ?_⟩
  refine (callsIn_wide.2 (nocall_any _)).mono ?_
  rintro _ w4 ⟨rfl, z4⟩
  have Z4 := Lib.hid (Z3.out.trans (z4.mono (by omega)))
  have BX4 := Lib.hid (BX3.out.below z4)
  have RM4 := Lib.hid (RM3.out.below z4)
  have hz4 := z4.size
  clear z4 BX3 RM3 Z3
  gi_wp2_with fail
  refine ⟨trivial, (fun h => by cases h), ?_⟩
  have bel4 : Below w4.heap.size w4 (w4.alloc (.cells #[.int .i64 (-1), .int .i64 0, .int .i64 0, .int .u64 0, .int .u64 0, .int .u64 0, .int .i64 0] 28)) := (Below.refl _ _).alloc (Nat.le_refl _) _
  have hRep := repeat_any w4.heap.size (t + 1) fno (w4.alloc (.cells #[.int .i64 (-1), .int .i64 0, .int .i64 0, .int .u64 0, .int .u64 0, .int .u64 0, .int .i64 0] 28)) ⟨by omega, by omega⟩ (by simp) (pc_new w4 fno)
  rw [show ((t + 1 : Nat) : Int) = 1 + (t : Int) by omega] at hRep
  refine (callsIn_wide.2 hRep).mono ?_
  rintro _ w5 ⟨rfl, bg5, z5⟩
  have Z5 := Lib.hid (Z4.out.trans (bel4.mono (by omega)) |>.trans (z5.mono (by simp; omega)))
  have BX5 := Lib.hid ((BX4.out.below bel4).below z5)
  have RM5 := Lib.hid ((RM4.out.below bel4).below z5)
  have hz5 : w4.heap.size + 1 ≤ w5.heap.size := by have := z5.size; simpa using this
  have BG5 := Lib.hid bg5
  clear z5 bg5 BX4 Z4 hRep bel4
  gi_wp2_with (refine ⟨trivial, (fun h => by cases h), ?_⟩; first | (gi_at_call 37; refine (calls_in _ _ _ _ _).mono ?_; rintro e w' ⟨rfl, rfl⟩) | (gi_at_call 38; refine (turns_in _ _ _ _ _ _).mono ?_; rintro e w' ⟨rfl, rfl⟩))
  obtain ⟨E1, E2, E3, E4, E5, E6, E7, E8, E9⟩ := seven w5 25 29 29 60 29 30 3 (.slice Am (sz 1 D 1 0).toNat cm) (.slice (some ⟨w4.heap.size + 1, 0, none⟩) (t + 1) (t + 1)) (.slice A no ca) (.func (.func 71) #[] #[.pointer (some ⟨w5.heap.size + 1 + 1, 0, none⟩)]) (.slice none 0 0) (.slice B nw cw) (.int .i64 ((t : Int) + 1))
  have BG : Bg w5 (w4.heap.size + 1) (List.replicate (t + 1) fno) := by have := BG5.out; simpa using this
  clear BG5
  have hlt5 := BG.lt
  generalize (((((((w5.alloc (.cells #[.slice Am (sz 1 D 1 0).toNat cm] 25)).alloc (.cells #[.slice (some ⟨w4.heap.size + 1, 0, none⟩) (t + 1) (t + 1)] 29)).alloc (.cells #[.slice A no ca] 29)).alloc (.cells #[.func (.func 71) #[] #[.pointer (some ⟨w5.heap.size + 1 + 1, 0, none⟩)]] 60)).alloc (.cells #[.slice none 0 0] 29)).alloc (.cells #[.slice B nw cw] 30)).alloc (.cells #[.int .i64 ((t : Int) + 1)] 3)) = W7 at *
  have hz7 : w.heap.size ≤ W7.heap.size := by omega
  have hmpos : 0 < (sz 1 D 1 0).toNat := by
    have h1 := (may_lim HM.out).2.1
    have h2 : sz 1 D 1 0 = bg D 1 1 := by unfold sz; rw [HM.out]; rfl
    have h4 := bg_ge (J := 1) (w := 1) h1.1 (by omega) (by omega)
    omega
  have ho : OB w.heap.size w1.heap.size (w4.heap.size + 1) w5.heap.size (w5.heap.size + 1) (w5.heap.size + 1 + 1) (w5.heap.size + 1 + 1 + 1) (w5.heap.size + 1 + 1 + 1 + 1) W7.heap.size W7.heap.size :=
    ⟨hz1, by omega, by omega, by omega, by omega, by omega, by omega, by omega, Nat.le_refl _⟩
  have p0 : PB w D (t + 1) w1.heap.size (w4.heap.size + 1) w5.heap.size (w5.heap.size + 1) (w5.heap.size + 1 + 1) (w5.heap.size + 1 + 1 + 1) (w5.heap.size + 1 + 1 + 1 + 1) W7.heap.size W7.heap.size (start D t).m (start D t).a (start D t).over (own.drop (start D t).nx) W7 := by
    have hl : (start D t).m.length = (sz 1 D 1 0).toNat := by simp [start]
    refine ⟨BX5.out.below E8, E2, ?_, E4, ⟨A, ca, ?_, ?_, ?_⟩, ⟨Am, cm, none, 0, ?_, ?_, E5, Ow.nil _ _, by simp [Value.ownBlock], by simp [Value.ownBlock]⟩, Z5.out.trans (E8.mono Z5.out.size), Nat.le_refl _⟩
    · have := (BG.ow (base := w4.heap.size + 1) (Nat.le_refl _) (n := t + 1) (by simp) (by omega)).below E8
      simpa [start] using this
    · simp only [start, List.drop_zero]; rw [HNO.out]; exact E3
    · simp only [start, List.drop_zero]; rw [HNO.out]; exact hca
    · simp only [start, List.drop_zero]; exact HP.out.below (Z5.out.trans (E8.mono Z5.out.size))
    · rw [hl]; exact E1
    · intro hp
      obtain ⟨ad, e1, e2, e3⟩ := RM4.out (by simp [start] at hp; simpa using hp)
      refine ⟨ad, e1, .inl (by omega), by omega, by omega, fun j u hu => ?_⟩
      obtain ⟨ad', e1', e2', e3'⟩ := RM5.out (by simp [start] at hp; simpa using hp)
      rw [e1] at e1'; cases e1'
      exact (E8.cell (p := ad.add j) (by rw [block_add]; omega)).trans (e3' j u (by simpa [start] using hu))
  have P0 := Lib.hid p0
  have hzz : w5.heap.size + 1 + 1 + 1 + 1 + 1 + 1 < W7.heap.size := by omega
  clear E9
  have E6' := Lib.hid E6
  have E7' := Lib.hid E7
  have V0 := Lib.hid (PV.start t HM.out)
  clear p0 BG E1 E2 E3 E4 E5 E6 E7 RM4 RM5 BX5
  refine range_pre2 (n₀ := w.heap.size) (p2 := 16) (gf := 72) (lb := #[.pointer (some ⟨w5.heap.size + 1 + 1 + 1 + 1 + 1, 0, none⟩), .pointer (some ⟨w5.heap.size + 1 + 1 + 1 + 1 + 1 + 1, 0, none⟩)]) (xs := val ((t : Int) + 1) who) rfl (enters_of Try.func72 (by kernel_rfl) rfl)
    (fun pre W => (∃ q, PB w D (t + 1) w1.heap.size (w4.heap.size + 1) w5.heap.size (w5.heap.size + 1) (w5.heap.size + 1 + 1) (w5.heap.size + 1 + 1 + 1) (w5.heap.size + 1 + 1 + 1 + 1) W7.heap.size q (pre.foldl (play1 D t own) (start D t)).m (pre.foldl (play1 D t own) (start D t)).a (pre.foldl (play1 D t own) (start D t)).over (own.drop (pre.foldl (play1 D t own) (start D t)).nx) W)
      ∧ Boxed W (w5.heap.size + 1 + 1 + 1 + 1 + 1) 30 (.slice B nw cw) ∧ Boxed W (w5.heap.size + 1 + 1 + 1 + 1 + 1 + 1) 3 (.int .i64 ((t : Int) + 1)) ∧ PV D t pre.length (pre.foldl (play1 D t own) (start D t)))
    hz7 ?abide ⟨⟨_, P0.out⟩, E6'.out, E7'.out, V0.out⟩ ?seq ?assign ?body ?done
  case abide =>
    rintro pre W W' ⟨⟨q, h1⟩, h2, h3, h4⟩ hc
    exact ⟨⟨q, h1.cl hc⟩, boxed_cl h2 hc, boxed_cl h3 hc, h4⟩
  case seq =>
    intro l' J' W' hJ' hI' hY' h0'
    refine turns1_in _ l' _ _ nw cw _ B who HNW.out (by omega) J' W' (fun pre W h => ?_) hY' h0'
    obtain ⟨⟨_, h1⟩, h2, h3, _⟩ := hI' pre W h
    exact ⟨h2, h3, HW.out.below h1.be⟩
  case assign =>
    intro l' m' x W' K hK
    simp only [List.setIfInBounds_toArray, List.set_cons_succ, List.set_cons_zero] at hK ⊢
    gi_wp2
    exact hK
  case body =>
    rintro l' m' pre x rest W' ⟨⟨q0, h1⟩, h2, h3, h4⟩ hx
    simp only [List.setIfInBounds_toArray, List.set_cons_succ, List.set_cons_zero]
    have hxm : x ∈ val ((t : Int) + 1) who := by rw [hx]; simp
    have hxr : 0 ≤ x ∧ x < (t : Int) + 1 := by unfold val at hxm; simpa using (List.mem_filter.1 hxm).2
    obtain ⟨i, rfl⟩ := Int.eq_ofNat_of_zero_le hxr.1
    have hi : i < t + 1 := by omega
    have hk : pre.length < 504 := by
      have := congrArg List.length hx
      have h5 : (val ((t : Int) + 1) who).length ≤ who.length := List.length_filter_le _ _
      rw [HNW.out] at h5
      simp at this
      omega
    clear hx hxm hxr
    have HB := Lib.hid h2
    have HC := Lib.hid h3
    have HS := Lib.hid (show ∃ s, pre.foldl (play1 D t own) (start D t) = s from ⟨_, rfl⟩)
    obtain ⟨s, hs⟩ := HS.out
    rw [hs] at h1 h4
    obtain ⟨k, hkk⟩ : ∃ k, pre.length = k := ⟨_, rfl⟩
    rw [hkk] at h4 hk
    have HPS := Lib.hid hs
    have HPK := Lib.hid hkk
    clear HS hs hkk
    have HV := Lib.hid h4
    have hl : i < s.a.length := by rw [HV.out.al]; exact hi
    have hzW : W7.heap.size ≤ W'.heap.size := h1.zs
    have P1 := Lib.hid h1.fresh
    obtain ⟨g0, hA0, _, _, hcs⟩ := h1.ar.at (by omega)
    cases hA0
    have c7 : C7 W' (w4.heap.size + 1) (i * 7) (s.a.getD i fno) := C7.of fun j v hv => by
      have hj : j < 7 := by have := (List.getElem?_eq_some_iff.1 hv).1; simpa [pc] using this
      have hg : s.a[i]? = some (s.a.getD i fno) := by rw [List.getD_eq_getElem?_getD, List.getElem?_eq_getElem hl]; rfl
      exact hcs _ _ ((flat_get s.a i _ hg j hj).trans hv)
    have ka := h1.ab.cell
    have HO := Lib.hid (show OB w.heap.size w1.heap.size (w4.heap.size + 1) w5.heap.size (w5.heap.size + 1) (w5.heap.size + 1 + 1) (w5.heap.size + 1 + 1 + 1) (w5.heap.size + 1 + 1 + 1 + 1) W7.heap.size W'.heap.size from ⟨ho.o1, ho.o2, ho.o3, ho.o4, ho.o5, ho.o6, ho.o7, ho.o8, hzW⟩)
    have HUF := HV.out.uf i
    have HOP := HV.out.op i
    clear h1 h2 h3 h4 hcs
    -- the box of the call
    have BQ := Lib.hid (show Bf (W'.alloc (.cells #[.int .i64 (s.a.getD i fno).op, .int .i64 (s.a.getD i fno).pc, .int .i64 (s.a.getD i fno).who, .int .u64 (s.a.getD i fno).val, .int .u64 (s.a.getD i fno).x, .int .u64 (s.a.getD i fno).y, .int .i64 (s.a.getD i fno).res] 28)) W'.heap.size (s.a.getD i fno) from heap_alloc_new _ _)
    have HF := Lib.hid (show ∃ f, s.a.getD i fno = f from ⟨_, rfl⟩)
    obtain ⟨f0, hf0⟩ := HF.out
    rw [hf0] at c7 BQ HUF HOP
    have HF0 := Lib.hid hf0
    have HUF := Lib.hid HUF
    clear hf0 HF
    obtain ⟨o, p, q', v, xx, y, s'⟩ := f0
    obtain ⟨a0, a1, a2, a3, a4, a5, a6⟩ := c7
    simp only at a0 a1 a2 a3 a4 a5 a6 HOP BQ
    have PQ := Lib.hid (P1.out.below ((Below.refl _ _).alloc (Nat.le_refl _) (.cells #[.int .i64 o, .int .i64 p, .int .i64 q', .int .u64 v, .int .u64 xx, .int .u64 y, .int .i64 s'] 28)))
    have KQ := Lib.hid (KeepsOthers.alloc W' (.cells #[.int .i64 o, .int .i64 p, .int .i64 q', .int .u64 v, .int .u64 xx, .int .u64 y, .int .i64 s'] 28))
    have CB := Lib.hid (And.intro HB.out.lt HC.out.lt)
    have HB2 := Lib.hid (And.intro (HB.out.alloc (.cells #[.int .i64 o, .int .i64 p, .int .i64 q', .int .u64 v, .int .u64 xx, .int .u64 y, .int .i64 s'] 28)) (HC.out.alloc (.cells #[.int .i64 o, .int .i64 p, .int .i64 q', .int .u64 v, .int .u64 xx, .int .u64 y, .int .i64 s'] 28)))
    obtain ⟨_, b0, b1, b2, b3⟩ := P1.out.cb
    obtain ⟨Am1, cm1, Ao1, co1, k1, k2, _⟩ := P1.out.mo
    have km := k1.cell
    have R1 := Lib.hid k2.rd
    have kf := P1.out.fb.cell
    clear P1 HB HC k1 k2
    have hgz : w4.heap.size + 1 < W'.heap.size := by omega
    have hgc : w1.heap.size < W'.heap.size := by omega
    have hgm : w5.heap.size < W'.heap.size := by omega
    have hga : w5.heap.size + 1 < W'.heap.size := by omega
    have hgl : w5.heap.size + 1 + 1 < W'.heap.size := by omega
    have hgf : w5.heap.size + 1 + 1 + 1 < W'.heap.size := by omega
    have hgo : w5.heap.size + 1 + 1 + 1 + 1 < W'.heap.size := by omega
    have RQ := Lib.hid (R1.out.below ((Below.refl W'.heap.size W').alloc (Nat.le_refl _) (.cells #[.int .i64 o, .int .i64 p, .int .i64 q', .int .u64 v, .int .u64 xx, .int .u64 y, .int .i64 s'] 28)))
    by_cases hop : o < 0
    · obtain rfl : o = -1 := by omega
      by_cases hi0 : i = 0
      · obtain ⟨f1, k1, hnx⟩ : ∃ f1 k1, nxt (own.drop s.nx) s.nx = (f1, k1) := ⟨_, _, rfl⟩
        have hx1 : nxl (own.drop s.nx) = (f1, own.drop k1) := by
          obtain ⟨h1, h2, h3, h4⟩ := nxl_nxt (own.drop s.nx) s.nx
          rw [hnx] at h1 h2 h3 h4
          rw [List.drop_drop] at h2
          rw [show s.nx + (k1 - s.nx) = k1 by simp only at h3; omega] at h2
          exact Prod.ext h1 h2
        have hnu := nxt_uf (own := own.drop s.nx) (fun f hf => HU.out f (List.mem_of_mem_drop hf)) s.nx
        rw [hnx] at hnu
        have HOP1 : -1 ≤ f1.op := hnu.2
        replace HUF := Lib.hid hnu.1
        have hTT : play1 D t own s i = turn D s i f1 k1 := by
          subst hi0
          have := turn_own (D := D) (th := (t : Int)) (own := own) (s := s) (by omega) hl (by rw [HF0.out]; show (-1 : Int) < 0; decide)
          rw [hnx] at this
          exact this
        have HI0 := Lib.hid hi0
        have HNX := Lib.hid hx1
        have HTT := Lib.hid hTT
        clear hnx hx1 hnu hTT hi0
        gi_wp2_with fail
        refine ⟨trivial, (fun h => by cases h), ?_⟩
        generalize W'.alloc (.cells #[.int .i64 (-1), .int .i64 p, .int .i64 q', .int .u64 v, .int .u64 xx, .int .u64 y, .int .i64 s'] 28) = X at PQ BQ KQ HB2 RQ ⊢
        clear a0 a1 a2 a3 a4 a5 a6 b0 b1 b2 b3 km kf ka R1 RQ
        obtain ⟨Al, cl, l1, l2, l3⟩ := PQ.out.lb
        refine (CallsIn.inRound _ (callsIn_wide.2 (calls1_own w.heap.size (w5.heap.size + 1 + 1) (i : Int) (by have := HI0.out; omega) Al cl _ X l1 l2 l3 (by omega)))).mono ?_
        rintro _ X2 ⟨rfl, Al2, cl2, l4, l5, l6, kb⟩
        rw [HNX.out] at l4 l5 l6 ⊢
        simp only at l4 l5 l6 ⊢
        have p2 := PQ.out.nx HO.out kb l4 l5 l6
        have b2 : Bf X2 W'.heap.size _ := (kb.others _ BQ.out.lt (by omega)).trans BQ.out
        have P := Lib.hid (p2.pf HO.out f1)
        have BB := Lib.hid (b2.pf f1)
        have K := Lib.hid ((KQ.out.trans (show KeepsOthers X X2 from keeps_kb kb l1)).trans (keeps_pf X2 W'.heap.size f1))
        have HB := Lib.hid (show Boxed (pf X2 W'.heap.size f1) (w5.heap.size + 1 + 1 + 1 + 1 + 1) 30 (.slice B nw cw) ∧ Boxed (pf X2 W'.heap.size f1) (w5.heap.size + 1 + 1 + 1 + 1 + 1 + 1) 3 (.int .i64 ((t : Int) + 1)) from
          ⟨(pf_other' _ _ _ (by omega)).trans ((kb.others _ HB2.out.1.lt (by omega)).trans HB2.out.1), (pf_other' _ _ _ (by omega)).trans ((kb.others _ HB2.out.2.lt (by omega)).trans HB2.out.2)⟩)
        obtain ⟨d0, d1, d2, d3, d4, d5, d6⟩ := b2.cells
        have fq := b2.free
        have lq := b2.lt
        obtain ⟨_, b0, b1, b2, b3⟩ := p2.cb
        obtain ⟨Am3, cm3, Ao3, co3, k1, _⟩ := p2.mo
        have km := k1.cell
        obtain ⟨Am4, cm4, Ao4, co4, k3, k4, _⟩ := P.out.mo
        have HE : Am4 = Am3 ∧ cm4 = cm3 := by
          have h1 := k3.cell
          have h2 : (pf X2 W'.heap.size f1).cell? ⟨w5.heap.size, 0, none⟩ = X2.cell? ⟨w5.heap.size, 0, none⟩ := World.cell?_of_block (a := ⟨w5.heap.size, 0, none⟩) (pf_other' _ _ _ (by first | omega | (simp only; omega)))
          rw [h2, km] at h1
          cases h1
          exact ⟨rfl, rfl⟩
        have RX := Lib.hid k4.rd
        rw [HE.1] at RX
        clear HE k1 k3 k4 p2 l1 l2 l3 l4 l5 l6 kb PQ BQ KQ HB2
        gi_wp2_with fail
        refine ⟨trivial, (fun h => by cases h), ?_⟩
        change CallsIn _ _ _ _ _ (pf X2 W'.heap.size f1) _
        generalize pf X2 W'.heap.size f1 = X3 at P BB K HB RX ⊢
        clear d0 d1 d2 d3 d4 d5 d6 fq lq b0 b1 b2 b3 km
        obtain ⟨m2, g, hd⟩ : ∃ m2 g, deqS 1 D 1 0 s.m f1 = (m2, g) := ⟨_, _, rfl⟩
        have HD := Lib.hid hd
        have hT := HTT.out
        have hV := HV.out.turn i HUF.out HOP1 k1
        have hl2 := deqS_len 1 D 1 0 s.m f1
        have hms := HV.out.ml
        have hm500 : s.m.length ≤ 500 := by have h1 := sz_lim 1 D 1 0; omega
        rw [hd] at hl2
        simp only at hl2
        unfold turn at hT hV
        rw [hd] at hT hV
        simp only at hT hV
        clear hd
        refine (CallsIn.inRound _ (callsIn_wide.2 (dstep_n RX.out rfl hm500 HV.out.um HUF.out HD.out))).mono ?_
        rintro _ u2 ⟨A2, c2, rfl, hr2, z2⟩
        have hmp : 0 < m2.length := by omega
        have p3 := (P.out.setM (c' := c2) HO.out BB.out.lt z2 hr2 hmp).pf HO.out g
        rw [hl2] at p3
        have P2 := P.out.below z2
        obtain ⟨Am2, cm2, Ao2, co2, k1, _⟩ := P2.mo
        have km2 := k1.cell
        have fm2 := k1.frozen
        have lm2 := k1.lt
        have b2 := BB.out.below z2 BB.out.lt
        obtain ⟨d0, d1, d2, d3, d4, d5, d6⟩ := b2.cells
        have fq2 := b2.free
        have lq2 := b2.lt
        have B3 := Lib.hid (show Bf (pf (u2.setCell ⟨w5.heap.size, 0, none⟩ (.slice A2 s.m.length c2)) W'.heap.size g) W'.heap.size g from Bf.pf ((Below.heap_setCell u2 ⟨w5.heap.size, 0, none⟩ _ W'.heap.size (by first | omega | (simp only; omega))).trans b2) g)
        have K3 := Lib.hid (((K.out.trans (keeps_below z2)).trans (KeepsOthers.setCell u2 ⟨w5.heap.size, 0, none⟩ (.slice A2 s.m.length c2))).trans (keeps_pf _ W'.heap.size g))
        have H3 := Lib.hid (show Boxed (pf (u2.setCell ⟨w5.heap.size, 0, none⟩ (.slice A2 s.m.length c2)) W'.heap.size g) (w5.heap.size + 1 + 1 + 1 + 1 + 1) 30 (.slice B nw cw) ∧ Boxed (pf (u2.setCell ⟨w5.heap.size, 0, none⟩ (.slice A2 s.m.length c2)) W'.heap.size g) (w5.heap.size + 1 + 1 + 1 + 1 + 1 + 1) 3 (.int .i64 ((t : Int) + 1)) from
          ⟨(pf_other' _ _ _ (by omega)).trans ((Below.heap_setCell u2 ⟨w5.heap.size, 0, none⟩ _ _ (by first | omega | (simp only; omega))).trans ((z2.block _ HB.out.1.lt).trans HB.out.1)), (pf_other' _ _ _ (by omega)).trans ((Below.heap_setCell u2 ⟨w5.heap.size, 0, none⟩ _ _ (by first | omega | (simp only; omega))).trans ((z2.block _ HB.out.2.lt).trans HB.out.2))⟩)
        have P3 := Lib.hid p3
        have HT := Lib.hid hT
        have HVV := Lib.hid hV
        clear p3 P2 k1 b2 hr2 hT hV hms HB K P RX BB
        gi_wp2_with fail
        refine ⟨trivial, (fun h => by cases h), ?_⟩
        change CallsIn _ _ _ _ _ (pf (u2.setCell ⟨w5.heap.size, 0, none⟩ (.slice A2 s.m.length c2)) W'.heap.size g) _
        generalize pf (u2.setCell ⟨w5.heap.size, 0, none⟩ (.slice A2 s.m.length c2)) W'.heap.size g = W3 at P3 B3 K3 H3 ⊢
        clear z2 km2 fm2 lm2 d0 d1 d2 d3 d4 d5 d6 fq2 lq2 hl2
        by_cases hr : g.res = 0
        · have hb : (g.res != 0) = false := by simp [hr]
          refine (CallsIn.inRound _ (callsIn_wide.2 (Tells.of (over_any g _) (v' := .bool false) (by rw [hb])))).mono ?_
          rintro _ u4 ⟨rfl, z4⟩
          have P4 := Lib.hid (P3.out.below z4)
          have B4 := Lib.hid (B3.out.below z4 B3.out.lt)
          have K4 := Lib.hid (K3.out.trans (keeps_below z4))
          have H4 := Lib.hid (And.intro (show Boxed u4 _ _ _ from (z4.block _ H3.out.1.lt).trans H3.out.1) (show Boxed u4 _ _ _ from (z4.block _ H3.out.2.lt).trans H3.out.2))
          have HR := Lib.hid hr
          clear z4 hb hr P3 B3 K3 H3
          have ka4 := P4.out.ab.cell
          obtain ⟨d0, d1, d2, d3, d4, d5, d6⟩ := B4.out.cells
          have lq := B4.out.lt
          obtain ⟨r0, r1, r2, r3, r4, r5, r6⟩ := P4.out.ar.c7 hi
          have fr := P4.out.ar.free
          have lg : (w4.heap.size + 1) < u4.heap.size := by omega
          gi_wp2
          have p5 := P4.out.setA HO.out hi g
          have k5 := K4.out.trans (keeps_pk7 u4 (w4.heap.size + 1) (i * 7) g)
          have h5 : Boxed (pk7 u4 (w4.heap.size + 1) (i * 7) g) (w5.heap.size + 1 + 1 + 1 + 1 + 1) 30 (.slice B nw cw) ∧ Boxed (pk7 u4 (w4.heap.size + 1) (i * 7) g) (w5.heap.size + 1 + 1 + 1 + 1 + 1 + 1) 3 (.int .i64 ((t : Int) + 1)) := ⟨(pk7_other _ (by omega)).trans H4.out.1, (pk7_other _ (by omega)).trans H4.out.2⟩
          have ht := HT.out
          have hv := HVV.out
          rw [if_pos HR.out] at ht hv
          refine onP_mk (W' := pk7 u4 (w4.heap.size + 1) (i * 7) g) ?_ k5
          simp only [List.foldl_append, List.foldl_cons, List.foldl_nil, List.length_append, List.length_singleton]
          rw [HPS.out, HPK.out, ht]
          exact ⟨⟨_, p5⟩, h5.1, h5.2, hv⟩
        · have hb : (g.res != 0) = true := by simp [hr]
          refine (CallsIn.inRound _ (callsIn_wide.2 (Tells.of (over_any g _) (v' := .bool true) (by rw [hb])))).mono ?_
          rintro _ u4 ⟨rfl, z4⟩
          have P4 := Lib.hid (P3.out.below z4)
          have b4 := B3.out.below z4 B3.out.lt
          have p5 := P4.out.atq HO.out (W' := u4.setCell ⟨W'.heap.size, 2, none⟩ (.int .i64 (i : Int))) (fun k hk => Below.heap_setCell u4 ⟨W'.heap.size, 2, none⟩ _ k hk) (by simp) ((Below.refl _ _).setCell (by first | omega | (simp only; omega)) _)
          have B5 := Lib.hid (show Bf (u4.setCell ⟨W'.heap.size, 2, none⟩ (.int .i64 (i : Int))) W'.heap.size { g with who := i } from Bf.wWho b4 i)
          have K5 := Lib.hid ((K3.out.trans (keeps_below z4)).trans (KeepsOthers.setCell u4 ⟨W'.heap.size, 2, none⟩ (.int .i64 (i : Int))))
          have H5 := Lib.hid (show Boxed (u4.setCell ⟨W'.heap.size, 2, none⟩ (.int .i64 (i : Int))) (w5.heap.size + 1 + 1 + 1 + 1 + 1) 30 (.slice B nw cw) ∧ Boxed (u4.setCell ⟨W'.heap.size, 2, none⟩ (.int .i64 (i : Int))) (w5.heap.size + 1 + 1 + 1 + 1 + 1 + 1) 3 (.int .i64 ((t : Int) + 1)) from
            ⟨(Below.heap_setCell u4 ⟨W'.heap.size, 2, none⟩ _ _ (by first | omega | (simp only; omega))).trans ((z4.block _ H3.out.1.lt).trans H3.out.1), (Below.heap_setCell u4 ⟨W'.heap.size, 2, none⟩ _ _ (by first | omega | (simp only; omega))).trans ((z4.block _ H3.out.2.lt).trans H3.out.2)⟩)
          obtain ⟨Am5, cm5, Ao5, co5, k1, k2, k3, k4, k5, k6⟩ := p5.mo
          have hz5 : (u4.setCell ⟨W'.heap.size, 2, none⟩ (.int .i64 (i : Int))).heap.size = u4.heap.size := by simp
          have hov : s.over.length ≤ 504 := by have := HV.out.ol; omega
          obtain ⟨A6, c6, u6, hrun, hown, hgr, hb6, hblk⟩ := app_one k4 { g with who := (i : Int) } (by omega) p5.zs
          have P7 := Lib.hid (p5.setO HO.out (by rw [hz5]; exact b4.lt) k1 k2 k3 k5 k6 hmp hown hgr hblk hb6)
          have ko4 : u4.cell? ⟨(w5.heap.size + 1 + 1 + 1 + 1), 0, none⟩ = some (.slice Ao5 s.over.length co5) := by
            have e : (u4.setCell ⟨W'.heap.size, 2, none⟩ (.int .i64 (i : Int))).heap[(w5.heap.size + 1 + 1 + 1 + 1)]? = u4.heap[(w5.heap.size + 1 + 1 + 1 + 1)]? := Below.heap_setCell u4 ⟨W'.heap.size, 2, none⟩ _ _ (by first | omega | (simp only; omega))
            exact (World.cell?_of_block (a := ⟨(w5.heap.size + 1 + 1 + 1 + 1), 0, none⟩) e).symm.trans k3.cell
          have k36 : Boxed u6 (w5.heap.size + 1 + 1 + 1 + 1) 29 (.slice Ao5 s.over.length co5) := (hb6.block _ (by omega)).trans k3
          have ko6 := k36.cell
          have fo6 := k36.frozen
          have lo6 := k36.lt
          have B7 := Lib.hid (show Bf (u6.setCell ⟨(w5.heap.size + 1 + 1 + 1 + 1), 0, none⟩ (.slice A6 (s.over.length + 1) c6)) W'.heap.size { g with who := (i : Int) } from
            (Below.heap_setCell u6 ⟨(w5.heap.size + 1 + 1 + 1 + 1), 0, none⟩ _ _ (by first | omega | (simp only; omega))).trans ((hgr.block W'.heap.size (by have := B5.out.lt; simp; omega) (fun e => k5 e.symm)).trans ((Below.heap_alloc _ _ _ B5.out.lt).trans B5.out)))
          have K7 := Lib.hid (((K5.out.trans (KeepsOthers.alloc _ _)).trans (KeepsOthers.of_grownBy hgr (fun j o e hj => by
            obtain ⟨o', ho', hc'⟩ := (k4.alloc (.cells #[.int .i64 g.op, .int .i64 g.pc, .int .i64 (i : Int), .int .u64 g.val, .int .u64 g.x, .int .u64 g.y, .int .i64 g.res] 28)).cells_own e
            rw [hj] at ho'; cases ho'; exact hc'))).trans (KeepsOthers.setCell u6 ⟨(w5.heap.size + 1 + 1 + 1 + 1), 0, none⟩ (.slice A6 (s.over.length + 1) c6)))
          have H7 := Lib.hid (show Boxed (u6.setCell ⟨(w5.heap.size + 1 + 1 + 1 + 1), 0, none⟩ (.slice A6 (s.over.length + 1) c6)) (w5.heap.size + 1 + 1 + 1 + 1 + 1) 30 (.slice B nw cw) ∧ Boxed (u6.setCell ⟨(w5.heap.size + 1 + 1 + 1 + 1), 0, none⟩ (.slice A6 (s.over.length + 1) c6)) (w5.heap.size + 1 + 1 + 1 + 1 + 1 + 1) 3 (.int .i64 ((t : Int) + 1)) from
            ⟨(Below.heap_setCell u6 ⟨(w5.heap.size + 1 + 1 + 1 + 1), 0, none⟩ _ _ (by first | omega | (simp only; omega))).trans ((hb6.block _ (by omega)).trans H5.out.1), (Below.heap_setCell u6 ⟨(w5.heap.size + 1 + 1 + 1 + 1), 0, none⟩ _ _ (by first | omega | (simp only; omega))).trans ((hb6.block _ (by omega)).trans H5.out.2)⟩)
          rw [hz5] at hrun
          simp only at hrun
          have RUN := Lib.hid hrun
          have HR := Lib.hid hr
          obtain ⟨d0, d1, d2, d3, d4, d5, d6⟩ := b4.cells
          have fq := b4.free
          have lq := b4.lt
          clear z4 hb hr P3 B3 K3 H3 p5 k1 k2 k3 k4 k5 k6 hrun hown hgr hb6 hblk k36 P4 b4 B5 K5 H5 hz5
          gi_wp2_with (gi_at_builtin; (with_reducible refine wpListIn_append_fr RUN.out ?_ ?_ ?_ ?_); exact ⟨_, _, rfl, rfl, rfl⟩; rfl; rfl)
          refine ⟨trivial, (fun h => by cases h), ?_⟩
          change CallsIn _ _ _ _ _ (u6.setCell ⟨(w5.heap.size + 1 + 1 + 1 + 1), 0, none⟩ (.slice A6 (s.over.length + 1) c6)) _
          generalize u6.setCell ⟨(w5.heap.size + 1 + 1 + 1 + 1), 0, none⟩ (.slice A6 (s.over.length + 1) c6) = W8 at P7 B7 K7 H7 ⊢
          clear ko4 ko6 fo6 lo6 RUN d0 d1 d2 d3 d4 d5 d6 fq lq
          refine (CallsIn.inRound _ (callsIn_wide.2 (nocall_any _))).mono ?_
          rintro _ u9 ⟨rfl, z9⟩
          have P9 := Lib.hid ((P7.out.below z9).pf HO.out fno)
          have b9 := B7.out.below z9 B7.out.lt
          have K9 := Lib.hid (((K7.out.trans (keeps_below z9)).trans (keeps_pf u9 W'.heap.size fno)).trans (keeps_pk7 (pf u9 W'.heap.size fno) (w4.heap.size + 1) (i * 7) fno))
          have H9 := Lib.hid (And.intro (show Boxed u9 _ _ _ from (z9.block _ H7.out.1.lt).trans H7.out.1) (show Boxed u9 _ _ _ from (z9.block _ H7.out.2.lt).trans H7.out.2))
          have p9 := P7.out.below z9
          have ka9 := p9.ab.cell
          obtain ⟨d0, d1, d2, d3, d4, d5, d6⟩ := b9.cells
          have fq := b9.free
          have lq := b9.lt
          obtain ⟨r0, r1, r2, r3, r4, r5, r6⟩ := p9.ar.c7 hi
          have fr := p9.ar.free
          have lg : (w4.heap.size + 1) < u9.heap.size := by omega
          clear z9 p9 b9 P7 B7 K7 H7
          gi_wp2
          have p5 := P9.out.setA HO.out hi fno
          have h5 : Boxed (pk7 (pf u9 W'.heap.size fno) (w4.heap.size + 1) (i * 7) fno) (w5.heap.size + 1 + 1 + 1 + 1 + 1) 30 (.slice B nw cw) ∧ Boxed (pk7 (pf u9 W'.heap.size fno) (w4.heap.size + 1) (i * 7) fno) (w5.heap.size + 1 + 1 + 1 + 1 + 1 + 1) 3 (.int .i64 ((t : Int) + 1)) := ⟨(pk7_other _ (by omega)).trans ((pf_other' _ _ _ (by omega)).trans H9.out.1), (pk7_other _ (by omega)).trans ((pf_other' _ _ _ (by omega)).trans H9.out.2)⟩
          have ht := HT.out
          have hv := HVV.out
          rw [if_neg HR.out] at ht hv
          refine onP_mk (W' := pk7 (pf u9 W'.heap.size fno) (w4.heap.size + 1) (i * 7) fno) ?_ K9.out
          simp only [List.foldl_append, List.foldl_cons, List.foldl_nil, List.length_append, List.length_singleton]
          rw [HPS.out, HPK.out, ht]
          exact ⟨⟨_, p5⟩, h5.1, h5.2, hv⟩
      · have HOP1 : -1 ≤ (fbg 2 0 0).op := by decide
        replace HUF : Hid (UF (fbg 2 0 0)) := Lib.hid (by unfold UF U fbg; simp)
        gi_wp2_with fail
        refine ⟨trivial, (fun h => by cases h), ?_⟩
        generalize W'.alloc (.cells #[.int .i64 (-1), .int .i64 p, .int .i64 q', .int .u64 v, .int .u64 xx, .int .u64 y, .int .i64 s'] 28) = X at PQ BQ KQ HB2 RQ ⊢
        clear a0 a1 a2 a3 a4 a5 a6 b0 b1 b2 b3 km kf ka R1 RQ
        obtain ⟨Al, cl, l1, l2, l3⟩ := PQ.out.lb
        refine (CallsIn.inRound _ (callsIn_wide.2 (calls1_steal w.heap.size (w5.heap.size + 1 + 1) (i : Int) (by omega) Al cl _ X l1 l2 l3 (by omega)))).mono ?_
        rintro _ X2 ⟨rfl, Al2, cl2, l4, l5, l6, kb⟩
        have p2 := PQ.out.nx HO.out kb l4 l5 l6
        have b2 : Bf X2 W'.heap.size _ := (kb.others _ BQ.out.lt (by omega)).trans BQ.out
        have P := Lib.hid (p2.pf HO.out (fbg 2 0 0))
        have BB := Lib.hid (b2.pf (fbg 2 0 0))
        have K := Lib.hid ((KQ.out.trans (show KeepsOthers X X2 from keeps_kb kb l1)).trans (keeps_pf X2 W'.heap.size (fbg 2 0 0)))
        have HB := Lib.hid (show Boxed (pf X2 W'.heap.size (fbg 2 0 0)) (w5.heap.size + 1 + 1 + 1 + 1 + 1) 30 (.slice B nw cw) ∧ Boxed (pf X2 W'.heap.size (fbg 2 0 0)) (w5.heap.size + 1 + 1 + 1 + 1 + 1 + 1) 3 (.int .i64 ((t : Int) + 1)) from
          ⟨(pf_other' _ _ _ (by omega)).trans ((kb.others _ HB2.out.1.lt (by omega)).trans HB2.out.1), (pf_other' _ _ _ (by omega)).trans ((kb.others _ HB2.out.2.lt (by omega)).trans HB2.out.2)⟩)
        obtain ⟨d0, d1, d2, d3, d4, d5, d6⟩ := b2.cells
        have fq := b2.free
        have lq := b2.lt
        obtain ⟨_, b0, b1, b2, b3⟩ := p2.cb
        obtain ⟨Am3, cm3, Ao3, co3, k1, _⟩ := p2.mo
        have km := k1.cell
        obtain ⟨Am4, cm4, Ao4, co4, k3, k4, _⟩ := P.out.mo
        have HE : Am4 = Am3 ∧ cm4 = cm3 := by
          have h1 := k3.cell
          have h2 : (pf X2 W'.heap.size (fbg 2 0 0)).cell? ⟨w5.heap.size, 0, none⟩ = X2.cell? ⟨w5.heap.size, 0, none⟩ := World.cell?_of_block (a := ⟨w5.heap.size, 0, none⟩) (pf_other' _ _ _ (by first | omega | (simp only; omega)))
          rw [h2, km] at h1
          cases h1
          exact ⟨rfl, rfl⟩
        have RX := Lib.hid k4.rd
        rw [HE.1] at RX
        clear HE k1 k3 k4 p2 l1 l2 l3 l4 l5 l6 kb PQ BQ KQ HB2
        gi_wp2_with fail
        refine ⟨trivial, (fun h => by cases h), ?_⟩
        change CallsIn _ _ _ _ _ (pf X2 W'.heap.size (fbg 2 0 0)) _
        generalize pf X2 W'.heap.size (fbg 2 0 0) = X3 at P BB K HB RX ⊢
        clear d0 d1 d2 d3 d4 d5 d6 fq lq b0 b1 b2 b3 km
        obtain ⟨m2, g, hd⟩ : ∃ m2 g, deqS 1 D 1 0 s.m (fbg 2 0 0) = (m2, g) := ⟨_, _, rfl⟩
        have HD := Lib.hid hd
        have hT := (show play1 D t own s i = turn D s i (fbg 2 0 0) s.nx from turn_thief (by omega) hl (by rw [HF0.out]; show (-1 : Int) < 0; decide) (by omega))
        have hV := HV.out.turn i HUF.out HOP1 s.nx
        have hl2 := deqS_len 1 D 1 0 s.m (fbg 2 0 0)
        have hms := HV.out.ml
        have hm500 : s.m.length ≤ 500 := by have h1 := sz_lim 1 D 1 0; omega
        rw [hd] at hl2
        simp only at hl2
        unfold turn at hT hV
        rw [hd] at hT hV
        simp only at hT hV
        clear hd
        refine (CallsIn.inRound _ (callsIn_wide.2 (dstep_n RX.out rfl hm500 HV.out.um HUF.out HD.out))).mono ?_
        rintro _ u2 ⟨A2, c2, rfl, hr2, z2⟩
        have hmp : 0 < m2.length := by omega
        have p3 := (P.out.setM (c' := c2) HO.out BB.out.lt z2 hr2 hmp).pf HO.out g
        rw [hl2] at p3
        have P2 := P.out.below z2
        obtain ⟨Am2, cm2, Ao2, co2, k1, _⟩ := P2.mo
        have km2 := k1.cell
        have fm2 := k1.frozen
        have lm2 := k1.lt
        have b2 := BB.out.below z2 BB.out.lt
        obtain ⟨d0, d1, d2, d3, d4, d5, d6⟩ := b2.cells
        have fq2 := b2.free
        have lq2 := b2.lt
        have B3 := Lib.hid (show Bf (pf (u2.setCell ⟨w5.heap.size, 0, none⟩ (.slice A2 s.m.length c2)) W'.heap.size g) W'.heap.size g from Bf.pf ((Below.heap_setCell u2 ⟨w5.heap.size, 0, none⟩ _ W'.heap.size (by first | omega | (simp only; omega))).trans b2) g)
        have K3 := Lib.hid (((K.out.trans (keeps_below z2)).trans (KeepsOthers.setCell u2 ⟨w5.heap.size, 0, none⟩ (.slice A2 s.m.length c2))).trans (keeps_pf _ W'.heap.size g))
        have H3 := Lib.hid (show Boxed (pf (u2.setCell ⟨w5.heap.size, 0, none⟩ (.slice A2 s.m.length c2)) W'.heap.size g) (w5.heap.size + 1 + 1 + 1 + 1 + 1) 30 (.slice B nw cw) ∧ Boxed (pf (u2.setCell ⟨w5.heap.size, 0, none⟩ (.slice A2 s.m.length c2)) W'.heap.size g) (w5.heap.size + 1 + 1 + 1 + 1 + 1 + 1) 3 (.int .i64 ((t : Int) + 1)) from
          ⟨(pf_other' _ _ _ (by omega)).trans ((Below.heap_setCell u2 ⟨w5.heap.size, 0, none⟩ _ _ (by first | omega | (simp only; omega))).trans ((z2.block _ HB.out.1.lt).trans HB.out.1)), (pf_other' _ _ _ (by omega)).trans ((Below.heap_setCell u2 ⟨w5.heap.size, 0, none⟩ _ _ (by first | omega | (simp only; omega))).trans ((z2.block _ HB.out.2.lt).trans HB.out.2))⟩)
        have P3 := Lib.hid p3
        have HT := Lib.hid hT
        have HVV := Lib.hid hV
        clear p3 P2 k1 b2 hr2 hT hV hms HB K P RX BB
        gi_wp2_with fail
        refine ⟨trivial, (fun h => by cases h), ?_⟩
        change CallsIn _ _ _ _ _ (pf (u2.setCell ⟨w5.heap.size, 0, none⟩ (.slice A2 s.m.length c2)) W'.heap.size g) _
        generalize pf (u2.setCell ⟨w5.heap.size, 0, none⟩ (.slice A2 s.m.length c2)) W'.heap.size g = W3 at P3 B3 K3 H3 ⊢
        clear z2 km2 fm2 lm2 d0 d1 d2 d3 d4 d5 d6 fq2 lq2 hl2
        by_cases hr : g.res = 0
        · have hb : (g.res != 0) = false := by simp [hr]
          refine (CallsIn.inRound _ (callsIn_wide.2 (Tells.of (over_any g _) (v' := .bool false) (by rw [hb])))).mono ?_
          rintro _ u4 ⟨rfl, z4⟩
          have P4 := Lib.hid (P3.out.below z4)
          have B4 := Lib.hid (B3.out.below z4 B3.out.lt)
          have K4 := Lib.hid (K3.out.trans (keeps_below z4))
          have H4 := Lib.hid (And.intro (show Boxed u4 _ _ _ from (z4.block _ H3.out.1.lt).trans H3.out.1) (show Boxed u4 _ _ _ from (z4.block _ H3.out.2.lt).trans H3.out.2))
          have HR := Lib.hid hr
          clear z4 hb hr P3 B3 K3 H3
          have ka4 := P4.out.ab.cell
          obtain ⟨d0, d1, d2, d3, d4, d5, d6⟩ := B4.out.cells
          have lq := B4.out.lt
          obtain ⟨r0, r1, r2, r3, r4, r5, r6⟩ := P4.out.ar.c7 hi
          have fr := P4.out.ar.free
          have lg : (w4.heap.size + 1) < u4.heap.size := by omega
          gi_wp2
          have p5 := P4.out.setA HO.out hi g
          have k5 := K4.out.trans (keeps_pk7 u4 (w4.heap.size + 1) (i * 7) g)
          have h5 : Boxed (pk7 u4 (w4.heap.size + 1) (i * 7) g) (w5.heap.size + 1 + 1 + 1 + 1 + 1) 30 (.slice B nw cw) ∧ Boxed (pk7 u4 (w4.heap.size + 1) (i * 7) g) (w5.heap.size + 1 + 1 + 1 + 1 + 1 + 1) 3 (.int .i64 ((t : Int) + 1)) := ⟨(pk7_other _ (by omega)).trans H4.out.1, (pk7_other _ (by omega)).trans H4.out.2⟩
          have ht := HT.out
          have hv := HVV.out
          rw [if_pos HR.out] at ht hv
          refine onP_mk (W' := pk7 u4 (w4.heap.size + 1) (i * 7) g) ?_ k5
          simp only [List.foldl_append, List.foldl_cons, List.foldl_nil, List.length_append, List.length_singleton]
          rw [HPS.out, HPK.out, ht]
          exact ⟨⟨_, p5⟩, h5.1, h5.2, hv⟩
        · have hb : (g.res != 0) = true := by simp [hr]
          refine (CallsIn.inRound _ (callsIn_wide.2 (Tells.of (over_any g _) (v' := .bool true) (by rw [hb])))).mono ?_
          rintro _ u4 ⟨rfl, z4⟩
          have P4 := Lib.hid (P3.out.below z4)
          have b4 := B3.out.below z4 B3.out.lt
          have p5 := P4.out.atq HO.out (W' := u4.setCell ⟨W'.heap.size, 2, none⟩ (.int .i64 (i : Int))) (fun k hk => Below.heap_setCell u4 ⟨W'.heap.size, 2, none⟩ _ k hk) (by simp) ((Below.refl _ _).setCell (by first | omega | (simp only; omega)) _)
          have B5 := Lib.hid (show Bf (u4.setCell ⟨W'.heap.size, 2, none⟩ (.int .i64 (i : Int))) W'.heap.size { g with who := i } from Bf.wWho b4 i)
          have K5 := Lib.hid ((K3.out.trans (keeps_below z4)).trans (KeepsOthers.setCell u4 ⟨W'.heap.size, 2, none⟩ (.int .i64 (i : Int))))
          have H5 := Lib.hid (show Boxed (u4.setCell ⟨W'.heap.size, 2, none⟩ (.int .i64 (i : Int))) (w5.heap.size + 1 + 1 + 1 + 1 + 1) 30 (.slice B nw cw) ∧ Boxed (u4.setCell ⟨W'.heap.size, 2, none⟩ (.int .i64 (i : Int))) (w5.heap.size + 1 + 1 + 1 + 1 + 1 + 1) 3 (.int .i64 ((t : Int) + 1)) from
            ⟨(Below.heap_setCell u4 ⟨W'.heap.size, 2, none⟩ _ _ (by first | omega | (simp only; omega))).trans ((z4.block _ H3.out.1.lt).trans H3.out.1), (Below.heap_setCell u4 ⟨W'.heap.size, 2, none⟩ _ _ (by first | omega | (simp only; omega))).trans ((z4.block _ H3.out.2.lt).trans H3.out.2)⟩)
          obtain ⟨Am5, cm5, Ao5, co5, k1, k2, k3, k4, k5, k6⟩ := p5.mo
          have hz5 : (u4.setCell ⟨W'.heap.size, 2, none⟩ (.int .i64 (i : Int))).heap.size = u4.heap.size := by simp
          have hov : s.over.length ≤ 504 := by have := HV.out.ol; omega
          obtain ⟨A6, c6, u6, hrun, hown, hgr, hb6, hblk⟩ := app_one k4 { g with who := (i : Int) } (by omega) p5.zs
          have P7 := Lib.hid (p5.setO HO.out (by rw [hz5]; exact b4.lt) k1 k2 k3 k5 k6 hmp hown hgr hblk hb6)
          have ko4 : u4.cell? ⟨(w5.heap.size + 1 + 1 + 1 + 1), 0, none⟩ = some (.slice Ao5 s.over.length co5) := by
            have e : (u4.setCell ⟨W'.heap.size, 2, none⟩ (.int .i64 (i : Int))).heap[(w5.heap.size + 1 + 1 + 1 + 1)]? = u4.heap[(w5.heap.size + 1 + 1 + 1 + 1)]? := Below.heap_setCell u4 ⟨W'.heap.size, 2, none⟩ _ _ (by first | omega | (simp only; omega))
            exact (World.cell?_of_block (a := ⟨(w5.heap.size + 1 + 1 + 1 + 1), 0, none⟩) e).symm.trans k3.cell
          have k36 : Boxed u6 (w5.heap.size + 1 + 1 + 1 + 1) 29 (.slice Ao5 s.over.length co5) := (hb6.block _ (by omega)).trans k3
          have ko6 := k36.cell
          have fo6 := k36.frozen
          have lo6 := k36.lt
          have B7 := Lib.hid (show Bf (u6.setCell ⟨(w5.heap.size + 1 + 1 + 1 + 1), 0, none⟩ (.slice A6 (s.over.length + 1) c6)) W'.heap.size { g with who := (i : Int) } from
            (Below.heap_setCell u6 ⟨(w5.heap.size + 1 + 1 + 1 + 1), 0, none⟩ _ _ (by first | omega | (simp only; omega))).trans ((hgr.block W'.heap.size (by have := B5.out.lt; simp; omega) (fun e => k5 e.symm)).trans ((Below.heap_alloc _ _ _ B5.out.lt).trans B5.out)))
          have K7 := Lib.hid (((K5.out.trans (KeepsOthers.alloc _ _)).trans (KeepsOthers.of_grownBy hgr (fun j o e hj => by
            obtain ⟨o', ho', hc'⟩ := (k4.alloc (.cells #[.int .i64 g.op, .int .i64 g.pc, .int .i64 (i : Int), .int .u64 g.val, .int .u64 g.x, .int .u64 g.y, .int .i64 g.res] 28)).cells_own e
            rw [hj] at ho'; cases ho'; exact hc'))).trans (KeepsOthers.setCell u6 ⟨(w5.heap.size + 1 + 1 + 1 + 1), 0, none⟩ (.slice A6 (s.over.length + 1) c6)))
          have H7 := Lib.hid (show Boxed (u6.setCell ⟨(w5.heap.size + 1 + 1 + 1 + 1), 0, none⟩ (.slice A6 (s.over.length + 1) c6)) (w5.heap.size + 1 + 1 + 1 + 1 + 1) 30 (.slice B nw cw) ∧ Boxed (u6.setCell ⟨(w5.heap.size + 1 + 1 + 1 + 1), 0, none⟩ (.slice A6 (s.over.length + 1) c6)) (w5.heap.size + 1 + 1 + 1 + 1 + 1 + 1) 3 (.int .i64 ((t : Int) + 1)) from
            ⟨(Below.heap_setCell u6 ⟨(w5.heap.size + 1 + 1 + 1 + 1), 0, none⟩ _ _ (by first | omega | (simp only; omega))).trans ((hb6.block _ (by omega)).trans H5.out.1), (Below.heap_setCell u6 ⟨(w5.heap.size + 1 + 1 + 1 + 1), 0, none⟩ _ _ (by first | omega | (simp only; omega))).trans ((hb6.block _ (by omega)).trans H5.out.2)⟩)
          rw [hz5] at hrun
          simp only at hrun
          have RUN := Lib.hid hrun
          have HR := Lib.hid hr
          obtain ⟨d0, d1, d2, d3, d4, d5, d6⟩ := b4.cells
          have fq := b4.free
          have lq := b4.lt
          clear z4 hb hr P3 B3 K3 H3 p5 k1 k2 k3 k4 k5 k6 hrun hown hgr hb6 hblk k36 P4 b4 B5 K5 H5 hz5
          gi_wp2_with (gi_at_builtin; (with_reducible refine wpListIn_append_fr RUN.out ?_ ?_ ?_ ?_); exact ⟨_, _, rfl, rfl, rfl⟩; rfl; rfl)
          refine ⟨trivial, (fun h => by cases h), ?_⟩
          change CallsIn _ _ _ _ _ (u6.setCell ⟨(w5.heap.size + 1 + 1 + 1 + 1), 0, none⟩ (.slice A6 (s.over.length + 1) c6)) _
          generalize u6.setCell ⟨(w5.heap.size + 1 + 1 + 1 + 1), 0, none⟩ (.slice A6 (s.over.length + 1) c6) = W8 at P7 B7 K7 H7 ⊢
          clear ko4 ko6 fo6 lo6 RUN d0 d1 d2 d3 d4 d5 d6 fq lq
          refine (CallsIn.inRound _ (callsIn_wide.2 (nocall_any _))).mono ?_
          rintro _ u9 ⟨rfl, z9⟩
          have P9 := Lib.hid ((P7.out.below z9).pf HO.out fno)
          have b9 := B7.out.below z9 B7.out.lt
          have K9 := Lib.hid (((K7.out.trans (keeps_below z9)).trans (keeps_pf u9 W'.heap.size fno)).trans (keeps_pk7 (pf u9 W'.heap.size fno) (w4.heap.size + 1) (i * 7) fno))
          have H9 := Lib.hid (And.intro (show Boxed u9 _ _ _ from (z9.block _ H7.out.1.lt).trans H7.out.1) (show Boxed u9 _ _ _ from (z9.block _ H7.out.2.lt).trans H7.out.2))
          have p9 := P7.out.below z9
          have ka9 := p9.ab.cell
          obtain ⟨d0, d1, d2, d3, d4, d5, d6⟩ := b9.cells
          have fq := b9.free
          have lq := b9.lt
          obtain ⟨r0, r1, r2, r3, r4, r5, r6⟩ := p9.ar.c7 hi
          have fr := p9.ar.free
          have lg : (w4.heap.size + 1) < u9.heap.size := by omega
          clear z9 p9 b9 P7 B7 K7 H7
          gi_wp2
          have p5 := P9.out.setA HO.out hi fno
          have h5 : Boxed (pk7 (pf u9 W'.heap.size fno) (w4.heap.size + 1) (i * 7) fno) (w5.heap.size + 1 + 1 + 1 + 1 + 1) 30 (.slice B nw cw) ∧ Boxed (pk7 (pf u9 W'.heap.size fno) (w4.heap.size + 1) (i * 7) fno) (w5.heap.size + 1 + 1 + 1 + 1 + 1 + 1) 3 (.int .i64 ((t : Int) + 1)) := ⟨(pk7_other _ (by omega)).trans ((pf_other' _ _ _ (by omega)).trans H9.out.1), (pk7_other _ (by omega)).trans ((pf_other' _ _ _ (by omega)).trans H9.out.2)⟩
          have ht := HT.out
          have hv := HVV.out
          rw [if_neg HR.out] at ht hv
          refine onP_mk (W' := pk7 (pf u9 W'.heap.size fno) (w4.heap.size + 1) (i * 7) fno) ?_ K9.out
          simp only [List.foldl_append, List.foldl_cons, List.foldl_nil, List.length_append, List.length_singleton]
          rw [HPS.out, HPK.out, ht]
          exact ⟨⟨_, p5⟩, h5.1, h5.2, hv⟩

    · have e1 : (o == -1) = false := by simp; omega
      have HOP1 : -1 ≤ (⟨o, p, q', v, xx, y, s'⟩ : Fr).op := HOP
      gi_wp2_with fail
      generalize W'.alloc (.cells #[.int .i64 o, .int .i64 p, .int .i64 q', .int .u64 v, .int .u64 xx, .int .u64 y, .int .i64 s'] 28) = X at PQ BQ KQ HB2 RQ ⊢
      have P := PQ
      have BB := BQ
      have K := KQ
      have HB := HB2
      have RX := RQ
      clear PQ BQ KQ HB2 RQ a0 a1 a2 a3 a4 a5 a6 b0 b1 b2 b3 km kf ka R1
      refine ⟨trivial, (fun h => by cases h), ?_⟩
      obtain ⟨m2, g, hd⟩ : ∃ m2 g, deqS 1 D 1 0 s.m ⟨o, p, q', v, xx, y, s'⟩ = (m2, g) := ⟨_, _, rfl⟩
      have HD := Lib.hid hd
      have hT := (show play1 D t own s i = turn D s i ⟨o, p, q', v, xx, y, s'⟩ s.nx by rw [← HF0.out]; exact turn_go (by omega) (by rw [HF0.out]; simp only; omega))
      have hV := HV.out.turn i HUF.out HOP1 s.nx
      have hl2 := deqS_len 1 D 1 0 s.m ⟨o, p, q', v, xx, y, s'⟩
      have hms := HV.out.ml
      have hm500 : s.m.length ≤ 500 := by have h1 := sz_lim 1 D 1 0; omega
      rw [hd] at hl2
      simp only at hl2
      unfold turn at hT hV
      rw [hd] at hT hV
      simp only at hT hV
      clear hd
      refine (CallsIn.inRound _ (callsIn_wide.2 (dstep_n RX.out rfl hm500 HV.out.um HUF.out HD.out))).mono ?_
      rintro _ u2 ⟨A2, c2, rfl, hr2, z2⟩
      have hmp : 0 < m2.length := by omega
      have p3 := (P.out.setM (c' := c2) HO.out BB.out.lt z2 hr2 hmp).pf HO.out g
      rw [hl2] at p3
      have P2 := P.out.below z2
      obtain ⟨Am2, cm2, Ao2, co2, k1, _⟩ := P2.mo
      have km2 := k1.cell
      have fm2 := k1.frozen
      have lm2 := k1.lt
      have b2 := BB.out.below z2 BB.out.lt
      obtain ⟨d0, d1, d2, d3, d4, d5, d6⟩ := b2.cells
      have fq2 := b2.free
      have lq2 := b2.lt
      have B3 := Lib.hid (show Bf (pf (u2.setCell ⟨w5.heap.size, 0, none⟩ (.slice A2 s.m.length c2)) W'.heap.size g) W'.heap.size g from Bf.pf ((Below.heap_setCell u2 ⟨w5.heap.size, 0, none⟩ _ W'.heap.size (by first | omega | (simp only; omega))).trans b2) g)
      have K3 := Lib.hid (((K.out.trans (keeps_below z2)).trans (KeepsOthers.setCell u2 ⟨w5.heap.size, 0, none⟩ (.slice A2 s.m.length c2))).trans (keeps_pf _ W'.heap.size g))
      have H3 := Lib.hid (show Boxed (pf (u2.setCell ⟨w5.heap.size, 0, none⟩ (.slice A2 s.m.length c2)) W'.heap.size g) (w5.heap.size + 1 + 1 + 1 + 1 + 1) 30 (.slice B nw cw) ∧ Boxed (pf (u2.setCell ⟨w5.heap.size, 0, none⟩ (.slice A2 s.m.length c2)) W'.heap.size g) (w5.heap.size + 1 + 1 + 1 + 1 + 1 + 1) 3 (.int .i64 ((t : Int) + 1)) from
        ⟨(pf_other' _ _ _ (by omega)).trans ((Below.heap_setCell u2 ⟨w5.heap.size, 0, none⟩ _ _ (by first | omega | (simp only; omega))).trans ((z2.block _ HB.out.1.lt).trans HB.out.1)), (pf_other' _ _ _ (by omega)).trans ((Below.heap_setCell u2 ⟨w5.heap.size, 0, none⟩ _ _ (by first | omega | (simp only; omega))).trans ((z2.block _ HB.out.2.lt).trans HB.out.2))⟩)
      have P3 := Lib.hid p3
      have HT := Lib.hid hT
      have HVV := Lib.hid hV
      clear p3 P2 k1 b2 hr2 hT hV hms HB K P RX BB
      gi_wp2_with fail
      refine ⟨trivial, (fun h => by cases h), ?_⟩
      change CallsIn _ _ _ _ _ (pf (u2.setCell ⟨w5.heap.size, 0, none⟩ (.slice A2 s.m.length c2)) W'.heap.size g) _
      generalize pf (u2.setCell ⟨w5.heap.size, 0, none⟩ (.slice A2 s.m.length c2)) W'.heap.size g = W3 at P3 B3 K3 H3 ⊢
      clear z2 km2 fm2 lm2 d0 d1 d2 d3 d4 d5 d6 fq2 lq2 hl2
      by_cases hr : g.res = 0
      · have hb : (g.res != 0) = false := by simp [hr]
        refine (CallsIn.inRound _ (callsIn_wide.2 (Tells.of (over_any g _) (v' := .bool false) (by rw [hb])))).mono ?_
        rintro _ u4 ⟨rfl, z4⟩
        have P4 := Lib.hid (P3.out.below z4)
        have B4 := Lib.hid (B3.out.below z4 B3.out.lt)
        have K4 := Lib.hid (K3.out.trans (keeps_below z4))
        have H4 := Lib.hid (And.intro (show Boxed u4 _ _ _ from (z4.block _ H3.out.1.lt).trans H3.out.1) (show Boxed u4 _ _ _ from (z4.block _ H3.out.2.lt).trans H3.out.2))
        have HR := Lib.hid hr
        clear z4 hb hr P3 B3 K3 H3
        have ka4 := P4.out.ab.cell
        obtain ⟨d0, d1, d2, d3, d4, d5, d6⟩ := B4.out.cells
        have lq := B4.out.lt
        obtain ⟨r0, r1, r2, r3, r4, r5, r6⟩ := P4.out.ar.c7 hi
        have fr := P4.out.ar.free
        have lg : (w4.heap.size + 1) < u4.heap.size := by omega
        gi_wp2
        have p5 := P4.out.setA HO.out hi g
        have k5 := K4.out.trans (keeps_pk7 u4 (w4.heap.size + 1) (i * 7) g)
        have h5 : Boxed (pk7 u4 (w4.heap.size + 1) (i * 7) g) (w5.heap.size + 1 + 1 + 1 + 1 + 1) 30 (.slice B nw cw) ∧ Boxed (pk7 u4 (w4.heap.size + 1) (i * 7) g) (w5.heap.size + 1 + 1 + 1 + 1 + 1 + 1) 3 (.int .i64 ((t : Int) + 1)) := ⟨(pk7_other _ (by omega)).trans H4.out.1, (pk7_other _ (by omega)).trans H4.out.2⟩
        have ht := HT.out
        have hv := HVV.out
        rw [if_pos HR.out] at ht hv
        refine onP_mk (W' := pk7 u4 (w4.heap.size + 1) (i * 7) g) ?_ k5
        simp only [List.foldl_append, List.foldl_cons, List.foldl_nil, List.length_append, List.length_singleton]
        rw [HPS.out, HPK.out, ht]
        exact ⟨⟨_, p5⟩, h5.1, h5.2, hv⟩
      · have hb : (g.res != 0) = true := by simp [hr]
        refine (CallsIn.inRound _ (callsIn_wide.2 (Tells.of (over_any g _) (v' := .bool true) (by rw [hb])))).mono ?_
        rintro _ u4 ⟨rfl, z4⟩
        have P4 := Lib.hid (P3.out.below z4)
        have b4 := B3.out.below z4 B3.out.lt
        have p5 := P4.out.atq HO.out (W' := u4.setCell ⟨W'.heap.size, 2, none⟩ (.int .i64 (i : Int))) (fun k hk => Below.heap_setCell u4 ⟨W'.heap.size, 2, none⟩ _ k hk) (by simp) ((Below.refl _ _).setCell (by first | omega | (simp only; omega)) _)
        have B5 := Lib.hid (show Bf (u4.setCell ⟨W'.heap.size, 2, none⟩ (.int .i64 (i : Int))) W'.heap.size { g with who := i } from Bf.wWho b4 i)
        have K5 := Lib.hid ((K3.out.trans (keeps_below z4)).trans (KeepsOthers.setCell u4 ⟨W'.heap.size, 2, none⟩ (.int .i64 (i : Int))))
        have H5 := Lib.hid (show Boxed (u4.setCell ⟨W'.heap.size, 2, none⟩ (.int .i64 (i : Int))) (w5.heap.size + 1 + 1 + 1 + 1 + 1) 30 (.slice B nw cw) ∧ Boxed (u4.setCell ⟨W'.heap.size, 2, none⟩ (.int .i64 (i : Int))) (w5.heap.size + 1 + 1 + 1 + 1 + 1 + 1) 3 (.int .i64 ((t : Int) + 1)) from
          ⟨(Below.heap_setCell u4 ⟨W'.heap.size, 2, none⟩ _ _ (by first | omega | (simp only; omega))).trans ((z4.block _ H3.out.1.lt).trans H3.out.1), (Below.heap_setCell u4 ⟨W'.heap.size, 2, none⟩ _ _ (by first | omega | (simp only; omega))).trans ((z4.block _ H3.out.2.lt).trans H3.out.2)⟩)
        obtain ⟨Am5, cm5, Ao5, co5, k1, k2, k3, k4, k5, k6⟩ := p5.mo
        have hz5 : (u4.setCell ⟨W'.heap.size, 2, none⟩ (.int .i64 (i : Int))).heap.size = u4.heap.size := by simp
        have hov : s.over.length ≤ 504 := by have := HV.out.ol; omega
        obtain ⟨A6, c6, u6, hrun, hown, hgr, hb6, hblk⟩ := app_one k4 { g with who := (i : Int) } (by omega) p5.zs
        have P7 := Lib.hid (p5.setO HO.out (by rw [hz5]; exact b4.lt) k1 k2 k3 k5 k6 hmp hown hgr hblk hb6)
        have ko4 : u4.cell? ⟨(w5.heap.size + 1 + 1 + 1 + 1), 0, none⟩ = some (.slice Ao5 s.over.length co5) := by
          have e : (u4.setCell ⟨W'.heap.size, 2, none⟩ (.int .i64 (i : Int))).heap[(w5.heap.size + 1 + 1 + 1 + 1)]? = u4.heap[(w5.heap.size + 1 + 1 + 1 + 1)]? := Below.heap_setCell u4 ⟨W'.heap.size, 2, none⟩ _ _ (by first | omega | (simp only; omega))
          exact (World.cell?_of_block (a := ⟨(w5.heap.size + 1 + 1 + 1 + 1), 0, none⟩) e).symm.trans k3.cell
        have k36 : Boxed u6 (w5.heap.size + 1 + 1 + 1 + 1) 29 (.slice Ao5 s.over.length co5) := (hb6.block _ (by omega)).trans k3
        have ko6 := k36.cell
        have fo6 := k36.frozen
        have lo6 := k36.lt
        have B7 := Lib.hid (show Bf (u6.setCell ⟨(w5.heap.size + 1 + 1 + 1 + 1), 0, none⟩ (.slice A6 (s.over.length + 1) c6)) W'.heap.size { g with who := (i : Int) } from
          (Below.heap_setCell u6 ⟨(w5.heap.size + 1 + 1 + 1 + 1), 0, none⟩ _ _ (by first | omega | (simp only; omega))).trans ((hgr.block W'.heap.size (by have := B5.out.lt; simp; omega) (fun e => k5 e.symm)).trans ((Below.heap_alloc _ _ _ B5.out.lt).trans B5.out)))
        have K7 := Lib.hid (((K5.out.trans (KeepsOthers.alloc _ _)).trans (KeepsOthers.of_grownBy hgr (fun j o e hj => by
          obtain ⟨o', ho', hc'⟩ := (k4.alloc (.cells #[.int .i64 g.op, .int .i64 g.pc, .int .i64 (i : Int), .int .u64 g.val, .int .u64 g.x, .int .u64 g.y, .int .i64 g.res] 28)).cells_own e
          rw [hj] at ho'; cases ho'; exact hc'))).trans (KeepsOthers.setCell u6 ⟨(w5.heap.size + 1 + 1 + 1 + 1), 0, none⟩ (.slice A6 (s.over.length + 1) c6)))
        have H7 := Lib.hid (show Boxed (u6.setCell ⟨(w5.heap.size + 1 + 1 + 1 + 1), 0, none⟩ (.slice A6 (s.over.length + 1) c6)) (w5.heap.size + 1 + 1 + 1 + 1 + 1) 30 (.slice B nw cw) ∧ Boxed (u6.setCell ⟨(w5.heap.size + 1 + 1 + 1 + 1), 0, none⟩ (.slice A6 (s.over.length + 1) c6)) (w5.heap.size + 1 + 1 + 1 + 1 + 1 + 1) 3 (.int .i64 ((t : Int) + 1)) from
          ⟨(Below.heap_setCell u6 ⟨(w5.heap.size + 1 + 1 + 1 + 1), 0, none⟩ _ _ (by first | omega | (simp only; omega))).trans ((hb6.block _ (by omega)).trans H5.out.1), (Below.heap_setCell u6 ⟨(w5.heap.size + 1 + 1 + 1 + 1), 0, none⟩ _ _ (by first | omega | (simp only; omega))).trans ((hb6.block _ (by omega)).trans H5.out.2)⟩)
        rw [hz5] at hrun
        simp only at hrun
        have RUN := Lib.hid hrun
        have HR := Lib.hid hr
        obtain ⟨d0, d1, d2, d3, d4, d5, d6⟩ := b4.cells
        have fq := b4.free
        have lq := b4.lt
        clear z4 hb hr P3 B3 K3 H3 p5 k1 k2 k3 k4 k5 k6 hrun hown hgr hb6 hblk k36 P4 b4 B5 K5 H5 hz5
        gi_wp2_with (gi_at_builtin; (with_reducible refine wpListIn_append_fr RUN.out ?_ ?_ ?_ ?_); exact ⟨_, _, rfl, rfl, rfl⟩; rfl; rfl)
        refine ⟨trivial, (fun h => by cases h), ?_⟩
        change CallsIn _ _ _ _ _ (u6.setCell ⟨(w5.heap.size + 1 + 1 + 1 + 1), 0, none⟩ (.slice A6 (s.over.length + 1) c6)) _
        generalize u6.setCell ⟨(w5.heap.size + 1 + 1 + 1 + 1), 0, none⟩ (.slice A6 (s.over.length + 1) c6) = W8 at P7 B7 K7 H7 ⊢
        clear ko4 ko6 fo6 lo6 RUN d0 d1 d2 d3 d4 d5 d6 fq lq
        refine (CallsIn.inRound _ (callsIn_wide.2 (nocall_any _))).mono ?_
        rintro _ u9 ⟨rfl, z9⟩
        have P9 := Lib.hid ((P7.out.below z9).pf HO.out fno)
        have b9 := B7.out.below z9 B7.out.lt
        have K9 := Lib.hid (((K7.out.trans (keeps_below z9)).trans (keeps_pf u9 W'.heap.size fno)).trans (keeps_pk7 (pf u9 W'.heap.size fno) (w4.heap.size + 1) (i * 7) fno))
        have H9 := Lib.hid (And.intro (show Boxed u9 _ _ _ from (z9.block _ H7.out.1.lt).trans H7.out.1) (show Boxed u9 _ _ _ from (z9.block _ H7.out.2.lt).trans H7.out.2))
        have p9 := P7.out.below z9
        have ka9 := p9.ab.cell
        obtain ⟨d0, d1, d2, d3, d4, d5, d6⟩ := b9.cells
        have fq := b9.free
        have lq := b9.lt
        obtain ⟨r0, r1, r2, r3, r4, r5, r6⟩ := p9.ar.c7 hi
        have fr := p9.ar.free
        have lg : (w4.heap.size + 1) < u9.heap.size := by omega
        clear z9 p9 b9 P7 B7 K7 H7
        gi_wp2
        have p5 := P9.out.setA HO.out hi fno
        have h5 : Boxed (pk7 (pf u9 W'.heap.size fno) (w4.heap.size + 1) (i * 7) fno) (w5.heap.size + 1 + 1 + 1 + 1 + 1) 30 (.slice B nw cw) ∧ Boxed (pk7 (pf u9 W'.heap.size fno) (w4.heap.size + 1) (i * 7) fno) (w5.heap.size + 1 + 1 + 1 + 1 + 1 + 1) 3 (.int .i64 ((t : Int) + 1)) := ⟨(pk7_other _ (by omega)).trans ((pf_other' _ _ _ (by omega)).trans H9.out.1), (pk7_other _ (by omega)).trans ((pf_other' _ _ _ (by omega)).trans H9.out.2)⟩
        have ht := HT.out
        have hv := HVV.out
        rw [if_neg HR.out] at ht hv
        refine onP_mk (W' := pk7 (pf u9 W'.heap.size fno) (w4.heap.size + 1) (i * 7) fno) ?_ K9.out
        simp only [List.foldl_append, List.foldl_cons, List.foldl_nil, List.length_append, List.length_singleton]
        rw [HPS.out, HPK.out, ht]
        exact ⟨⟨_, p5⟩, h5.1, h5.2, hv⟩

  case done =>
    rintro D' W hD ⟨⟨q, h1⟩, h2, h3, h4⟩ hK
    rw [val_fold] at h1 h4
    change PB w D (t + 1) _ _ _ _ _ _ _ _ q (play D t own who).m (play D t own who).a (play D t own who).over _ W at h1
    change PV D t _ (play D t own who) at h4
    have ka := h1.ab.cell
    obtain ⟨Am2, cm2, Ao2, co2, k1, k2, k3, k4, k5, k6⟩ := h1.mo
    have km := k1.cell
    have ko := k3.cell
    have H1 := Lib.hid h1
    have H2 := Lib.hid k2.rd
    have H4 := Lib.hid k4
    have H5 := Lib.hid (ow_cap k4)
    have HK2 := Lib.hid hK
    have HA := Lib.hid h4.al
    clear h1 h2 h3 h4 k1 k2 k3 k4 k5 k6 hK E6' E7' P0 V0
    gi_wp2
    gi_region
    all_goals
      gi_wp2
      refine leaves_mark (n₀ := w.heap.size) D' _ HK2.out (by omega) ?_
      intro W2 hc _ _
      have hc2 : Cl w.heap.size W W2 := Cl.trans ⟨(Below.refl _ _).drew, fun _ _ h _ => h⟩ hc
      have P2 := H1.out.cl hc2
      refine ⟨.tuple #[.slice Am2 (play D t own who).m.length cm2, .slice Ao2 (play D t own who).over.length co2, .slice (some ⟨w4.heap.size + 1, 0, none⟩) (t + 1) (t + 1)], by simp [results, Try.results13, go_sem]; try rfl, Am2, cm2, Ao2, co2, _, t + 1, by rw [HA.out], ?_, ?_, ?_, ?_, P2.be⟩
      · exact rd_cl H2.out hc2
      · exact (H4.out.cl hc2).pr
      · exact H5.out
      · exact P2.ar.pr
end Go.Proofs.Ytpeaahihjeplmaa
