/- Contract of List: the list that an injector has, or none. -/
import Derived.Test.YtppllanmgdhabaaLiA
import Derived.Test.YtppllanmgdhabaaEnD
import Derived.Test.YtppllanmgdhabaaTaD
import Derived.Deep.RegionHeld3
namespace Go.Proofs.Ytppllanmgdhabaa
open Go.RowKit Go.Deep Go.Shelf
attribute [local go_sem] Oper.semAt_some
/-- Of the first c places all are as they should be, and the list so far. -/
def Pl (J : Int) (m : List Int) (N : Int) (c : Nat) (l : List Int) : Prop :=
  (∀ j, j < c → seqAt J m N j = true) ∧ l = (List.range (min c N.toNat)).map fun i : Nat => at0 m (vlI J ((at0 m 4 + i) % 18446744073709551616))
set_option maxRecDepth 100000 in
theorem Pl.zero (J : Int) (m : List Int) (N : Int) : Pl J m N 0 [] := ⟨fun j hj => by omega, by simp⟩
set_option maxRecDepth 100000 in
theorem Pl.in_ {J : Int} {m : List Int} {N : Int} {c : Nat} {l : List Int} (h : Pl J m N c l) (hs : seqAt J m N c = true) (hc : (c : Int) < N) : Pl J m N (c + 1) (l ++ [at0 m (vlI J ((at0 m 4 + c) % 18446744073709551616))]) := by
  refine ⟨fun j hj => ?_, ?_⟩
  · by_cases e : j = c
    · subst e; exact hs
    · exact h.1 j (by omega)
  · rw [h.2, show min (c + 1) N.toNat = c + 1 by omega, show min c N.toNat = c by omega, List.range_succ, List.map_append]; rfl
set_option maxRecDepth 100000 in
theorem Pl.out_ {J : Int} {m : List Int} {N : Int} {c : Nat} {l : List Int} (h : Pl J m N c l) (hs : seqAt J m N c = true) (hc : ¬ (c : Int) < N) : Pl J m N (c + 1) l := by
  refine ⟨fun j hj => ?_, ?_⟩
  · by_cases e : j = c
    · subst e; exact hs
    · exact h.1 j (by omega)
  · rw [h.2, show min (c + 1) N.toNat = min c N.toNat by omega]
set_option maxRecDepth 100000 in
theorem Pl.done {W D J S : Int} {m : List Int} {l : List Int} (h : Pl J m (ilen W D J S m) J.toNat l) (h0 : 0 ≤ ilen W D J S m) (h1 : ilen W D J S m ≤ J) : ilst W D J S m = some l := by
  unfold ilst
  rw [if_pos ⟨h0, h1, List.all_eq_true.2 fun j hj => h.1 j (by simpa using hj)⟩, h.2, show min J.toNat (ilen W D J S m).toNat = (ilen W D J S m).toNat by omega]
set_option maxRecDepth 100000 in
theorem ilst_bad {W D J S : Int} {m : List Int} {c : Nat} (hc : c < J.toNat) (hs : seqAt J m (ilen W D J S m) c = false) : ilst W D J S m = none := by
  unfold ilst
  rw [if_neg]
  rintro ⟨_, _, h⟩
  have := List.all_eq_true.1 h c (by simpa using hc)
  rw [hs] at this
  cases this
/-- What is asked at a function's end alone. -/
def retPost (Q : Exit → Act → World → Prop) : Exit → Act → World → Prop
  | .ret, a, w => Q .ret a w
  | _, _, _ => False
set_option maxRecDepth 100000 in
theorem wp_retPost {P : Program} {c : Code} {Q : Exit → Act → World → Prop} {a : Act} {w : World} (h : c.wp P (retPost Q) a w) : c.wp P Q a w :=
  wp_mono h fun e a w hq => by
    cases e with
    | ret => exact hq
    | normal => exact hq.elim
    | exit id => exact hq.elim
    | goto t => exact hq.elim
    | panic ch => exact hq.elim
    | outgrown => exact hq.elim
/-- All blocks below lo but bm stay. -/
structure LKq (lo bm : Nat) (W x : World) : Prop where
  size : W.heap.size ≤ x.heap.size
  same : ∀ k, k < lo → k ≠ bm → x.heap[k]? = W.heap[k]?
set_option maxRecDepth 100000 in
theorem LKq.refl (lo bm : Nat) (W : World) : LKq lo bm W W := ⟨Nat.le_refl _, fun _ _ _ => rfl⟩
set_option maxRecDepth 100000 in
theorem lkq_drew {S : World → Prop} {lo bm : Nat} {W x : World} (K : ∀ x, LKq lo bm W x → S x) (G : ∀ x, S x → LKq lo bm W x) (h : S x) : S x.drew := K _ ⟨(G _ h).size, (G _ h).same⟩
set_option maxRecDepth 100000 in
theorem lkq_low {S : World → Prop} {lo bm : Nat} {W x x' : World} (K : ∀ x, LKq lo bm W x → S x) (G : ∀ x, S x → LKq lo bm W x) (hb : Below lo x x') (h : S x) : S x' :=
  K _ ⟨Nat.le_trans (G _ h).size hb.size, fun k hk hne => (hb.block k hk).trans ((G _ h).same k hk hne)⟩
set_option maxRecDepth 100000 in
theorem lkq_call {S : World → Prop} {lo bm : Nat} {W x x' : World} (K : ∀ x, LKq lo bm W x → S x) (G : ∀ x, S x → LKq lo bm W x) (hl : lo ≤ W.heap.size) (hb : Below x.heap.size x x') (h : S x) : S x' :=
  lkq_low K G (hb.mono (Nat.le_trans hl (G _ h).size)) h
set_option maxRecDepth 100000 in
theorem lkq_alloc {S : World → Prop} {lo bm : Nat} {W x : World} (K : ∀ x, LKq lo bm W x → S x) (G : ∀ x, S x → LKq lo bm W x) (hl : lo ≤ W.heap.size) (o : Obj) (h : S x) : S (x.alloc o) := lkq_call K G hl (bel_alloc x o) h
set_option maxRecDepth 100000 in
theorem lkq_set {S : World → Prop} {lo bm : Nat} {W x : World} (K : ∀ x, LKq lo bm W x → S x) (G : ∀ x, S x → LKq lo bm W x) (v : Value) (h : S x) : S (x.setCell ⟨bm, 0, none⟩ v) :=
  K _ ⟨by simpa using (G _ h).size, fun k hk hne => (Below.heap_setCell x ⟨bm, 0, none⟩ v k hne).trans ((G _ h).same k hk hne)⟩
set_option maxRecDepth 100000 in
theorem list_neg (W D J S : Int) (A : Option Addr) (k c : Nat) (m : List Int) (N : Int) (w : World) (h : Rd w A m) (hn : m.length = k) (hs : k ≤ 500) (hN : ilen W D J S m = N) (h0 : N < 0) : Calls Try.prog 23 #[cf W D J S, .slice A k c] w (RetL w none) := by
  have H := Lib.hid h
  have HN := Lib.hid hn
  have HS := Lib.hid hs
  have HL := Lib.hid hN
  clear h hn hs hN
  go_enter Try.func23, Try.ntmps23
  go_wp2
  go_step3
  go_wp2_with fail
  have hb := (((Below.refl w.heap.size w).alloc (Nat.le_refl _) (.cells #[.int .i64 W, .int .i64 D, .int .i64 J, .int .i64 S] 23)).alloc (by simp) (.cells #[.slice A k c] 25))
  have BX := Lib.hid ((Bx.mk w W D J S 23).below (bel_alloc _ (.cells #[.slice A k c] 25)))
  refine (Tells.of (qlen_any W D J S A k c m _ (H.out.below hb) HN.out HS.out) (v' := .int .i64 N) (by rw [HL.out])).mono ?_
  rintro _ w1 ⟨rfl, z1⟩
  have Z := Lib.hid (hb.trans (z1.mono (by simp; omega)))
  obtain ⟨gx, x0, x1, x2, x3⟩ := BX.out.below z1
  clear z1 hb
  go_wp2
  rw [Exit.noGoto_ret]
  refine bodyPost_ret (by simp [results, Try.results23, go_sem]; try rfl) rfl ?_
  exact ⟨none, 0, rfl, Nat.le_refl _, fun h => by simp at h, Z.out.alloc Z.out.size _⟩
set_option maxRecDepth 100000 in
theorem list_many (W D J S : Int) (A : Option Addr) (k c : Nat) (m : List Int) (N : Int) (w : World) (h : Rd w A m) (hn : m.length = k) (hs : k ≤ 500) (hN : ilen W D J S m = N) (h0 : ¬ N < 0) (h1 : J < N) : Calls Try.prog 23 #[cf W D J S, .slice A k c] w (RetL w none) := by
  have H := Lib.hid h
  have HN := Lib.hid hn
  have HS := Lib.hid hs
  have HL := Lib.hid hN
  clear h hn hs hN
  go_enter Try.func23, Try.ntmps23
  go_wp2
  go_step3
  go_wp2_with fail
  have hb := (((Below.refl w.heap.size w).alloc (Nat.le_refl _) (.cells #[.int .i64 W, .int .i64 D, .int .i64 J, .int .i64 S] 23)).alloc (by simp) (.cells #[.slice A k c] 25))
  have BX := Lib.hid ((Bx.mk w W D J S 23).below (bel_alloc _ (.cells #[.slice A k c] 25)))
  refine (Tells.of (qlen_any W D J S A k c m _ (H.out.below hb) HN.out HS.out) (v' := .int .i64 N) (by rw [HL.out])).mono ?_
  rintro _ w1 ⟨rfl, z1⟩
  have Z := Lib.hid (hb.trans (z1.mono (by simp; omega)))
  obtain ⟨gx, x0, x1, x2, x3⟩ := BX.out.below z1
  clear z1 hb
  go_wp2
  rw [Exit.noGoto_ret]
  refine bodyPost_ret (by simp [results, Try.results23, go_sem]; try rfl) rfl ?_
  exact ⟨none, 0, rfl, Nat.le_refl _, fun h => by simp at h, Z.out.alloc Z.out.size _⟩
set_option maxRecDepth 100000 in
theorem seqAt_in {J : Int} {m : List Int} {N : Int} {c : Nat} {x Y H : Int} (hx : (at0 m 4 + c) % 18446744073709551616 = x) (hY : at0 m (sqI J x) = Y) (hH : (tw J x + 1) % 18446744073709551616 = H) (hc : (c : Int) < N) : seqAt J m N c = (Y == H) := by
  unfold seqAt
  rw [if_pos hc, hx, hY, hH]
  exact Bool.eq_iff_iff.2 (by simp)
set_option maxRecDepth 100000 in
theorem seqAt_out {J : Int} {m : List Int} {N : Int} {c : Nat} {x Y H : Int} (hx : (at0 m 4 + c) % 18446744073709551616 = x) (hY : at0 m (sqI J x) = Y) (hH : tw J x % 18446744073709551616 = H) (hc : ¬ (c : Int) < N) : seqAt J m N c = (Y == H) := by
  unfold seqAt
  rw [if_neg hc, hx, hY, Int.add_zero, hH]
  exact Bool.eq_iff_iff.2 (by simp)
/-- Where a place is not as it should be. -/
def Xl (w : World) (W D J S : Int) (m : List Int) (b6 : Nat) (Wd : World) : Prop := ilst W D J S m = none ∧ Boxed Wd (b6 + 1) 24 (.slice none 0 0) ∧ Boxed Wd (b6 + 1 + 1) 4 (.bool false) ∧ Below w.heap.size w Wd
set_option maxRecDepth 100000 in
theorem Xl.cl {w : World} {W D J S : Int} {m : List Int} {b6 : Nat} {Wd W' : World} (h : Xl w W D J S m b6 Wd) (hc : Cl w.heap.size Wd W') : Xl w W D J S m b6 W' := ⟨h.1, lboxed_cl h.2.1 hc, lboxed_cl h.2.2.1 hc, h.2.2.2.trans hc.low⟩
set_option maxRecDepth 100000 in
theorem xl_out {w : World} {n₁ : Nat} {W D J S : Int} {A : Option Addr} {k c : Nat} {N h : Int} {b6 s : Nat} {l : List Int} {R : Option Addr} {d : Nat} {Wd : World} {m : List Int} (r : RL w n₁ W D J S A k c N h b6 s l R d Wd) (e : ilst W D J S m = none) (hb : w.heap.size ≤ b6 := by omega) :
    Xl w W D J S m b6 ((Wd.setCell ⟨b6 + 1, 0, none⟩ (.slice none 0 0)).setCell ⟨b6 + 1 + 1, 0, none⟩ (.bool false)) := by
  refine ⟨e, (Below.heap_setCell _ ⟨b6 + 1 + 1, 0, none⟩ _ (b6 + 1) (show b6 + 1 ≠ b6 + 1 + 1 by omega)).trans (Boxed.set _ r.list), Boxed.set _ ((Below.heap_setCell _ ⟨b6 + 1, 0, none⟩ _ (b6 + 1 + 1) (show b6 + 1 + 1 ≠ b6 + 1 by omega)).trans r.is_), (r.be.setCell (p := ⟨b6 + 1, 0, none⟩) (show w.heap.size ≤ b6 + 1 by omega) _).setCell (p := ⟨b6 + 1 + 1, 0, none⟩) (show w.heap.size ≤ b6 + 1 + 1 by omega) _⟩
set_option maxRecDepth 100000 in
set_option maxHeartbeats 8000000 in
theorem list_in (n : Nat) (W D J S : Int) (A : Option Addr) (k c : Nat) (m : List Int) (N : Int) (w : World) (h : Rd w A m) (hn : m.length = k) (hs : k ≤ 500) (hu : UM m) (hk : okm W D J S m = true) (hN : ilen W D J S m = N) (h0 : 0 ≤ N) (h1 : N ≤ J) :
    CallsIn Fence.wide n Try.prog 23 #[cf W D J S, .slice A k c] w (RetL w (ilst W D J S m)) := by
  obtain ⟨hm, _⟩ := okm_iff.1 hk
  obtain ⟨_, _, hJ, _⟩ := may_lim hm
  have HSQ := Lib.hid (fun x => tsq_ok (x := x) hm)
  have HVL := Lib.hid (fun x => tvl_ok (x := x) hm)
  have HJ := Lib.hid hJ
  have HH := Lib.hid h
  have HN := Lib.hid hn
  have HS := Lib.hid hs
  have HU := Lib.hid hu
  have HL := Lib.hid hN
  have HN0 := Lib.hid h0
  have HN1 := Lib.hid h1
  have e0 : ¬ N < 0 := by omega
  have e1 : ¬ J < N := by omega
  clear h hn hs hu hk hN h0 h1 hm hJ
  refine callsIn_of_wp_marks Try.func23 rfl trivial ?_ rfl
  simp only [Try.ntmps23, List.size_toArray, List.length_cons, List.length_nil, Nat.reduceAdd, Nat.reduceSub, Array.replicate_succ, Array.replicate_zero, List.push_toArray, List.append_toArray, List.nil_append, List.cons_append]
  refine wpIn_wide.2 (wp_retPost ?_)
  go_wp2
  go_step3
  go_wp2_with fail
  have hb := (((Below.refl w.heap.size w).alloc (Nat.le_refl _) (.cells #[.int .i64 W, .int .i64 D, .int .i64 J, .int .i64 S] 23)).alloc (by simp) (.cells #[.slice A k c] 25))
  have X1 : ((w.alloc (.cells #[.int .i64 W, .int .i64 D, .int .i64 J, .int .i64 S] 23)).alloc (.cells #[.slice A k c] 25)).heap[w.heap.size]? = some (.cells #[.int .i64 W, .int .i64 D, .int .i64 J, .int .i64 S] 23 (0, 0)) := ((bel_alloc _ _).block _ (by simp)).trans (World.alloc_heap_new w _)
  have X2 : Boxed ((w.alloc (.cells #[.int .i64 W, .int .i64 D, .int .i64 J, .int .i64 S] 23)).alloc (.cells #[.slice A k c] 25)) (w.heap.size + 1) 25 (.slice A k c) := by
    have := Boxed.new (w.alloc (.cells #[.int .i64 W, .int .i64 D, .int .i64 J, .int .i64 S] 23)) 25 (.slice A k c)
    rw [World.size_alloc] at this
    exact this
  have hz : ((w.alloc (.cells #[.int .i64 W, .int .i64 D, .int .i64 J, .int .i64 S] 23)).alloc (.cells #[.slice A k c] 25)).heap.size = w.heap.size + 2 := by simp
  generalize (w.alloc (.cells #[.int .i64 W, .int .i64 D, .int .i64 J, .int .i64 S] 23)).alloc (.cells #[.slice A k c] 25) = w0 at hb X1 X2 hz ⊢
  refine (Tells.of (qlen_any W D J S A k c m _ (HH.out.below hb) HN.out HS.out) (v' := .int .i64 N) (by rw [HL.out])).mono ?_
  rintro _ w1 ⟨rfl, z1⟩
  have hz1 : w.heap.size + 2 ≤ w1.heap.size := by have := z1.size; omega
  have Y1 := (z1.block _ (by omega)).trans X1
  have Y2 : Boxed w1 _ _ _ := (z1.block _ (by omega)).trans X2
  have hb1 := hb.trans (z1.mono (by omega))
  clear z1 X1 X2 hb hz
  have k2 : w1.cell? ⟨w.heap.size, 2, none⟩ = some (.int .i64 J) := by rw [cell_of_row w1 _ _ _ _ _ Y1]; rfl
  have k3 := Y2.cell
  have Y1 := Lib.hid Y1
  have Y2 := Lib.hid Y2
  have HB1 := Lib.hid hb1
  have HZ1 := Lib.hid hz1
  have gx : w.heap.size < w1.heap.size := by omega
  have gx1 : w.heap.size + 1 < w1.heap.size := by omega
  clear hb1
  go_wp2
  go_step3
  have b6 := ((Boxed.new w1 3 (.int .i64 N)).alloc (.cells #[.slice none 0 0] 24)).alloc (.cells #[.bool true] 4)
  have b7 := (Boxed.new (w1.alloc (.cells #[.int .i64 N] 3)) 24 (.slice none 0 0)).alloc (.cells #[.bool true] 4)
  have b8 := Boxed.new ((w1.alloc (.cells #[.int .i64 N] 3)).alloc (.cells #[.slice none 0 0] 24)) 4 (.bool true)
  have hz2 : (((w1.alloc (.cells #[.int .i64 N] 3)).alloc (.cells #[.slice none 0 0] 24)).alloc (.cells #[.bool true] 4)).heap.size = w1.heap.size + 1 + 1 + 1 := by simp
  have zb : Below w1.heap.size w1 (((w1.alloc (.cells #[.int .i64 N] 3)).alloc (.cells #[.slice none 0 0] 24)).alloc (.cells #[.bool true] 4)) := (((Below.refl _ _).alloc (Nat.le_refl _) _).alloc (by simp) _).alloc (by simp; omega) _
  simp only [World.size_alloc] at b7 b8
  generalize ((w1.alloc (.cells #[.int .i64 N] 3)).alloc (.cells #[.slice none 0 0] 24)).alloc (.cells #[.bool true] 4) = w2 at b6 b7 b8 hz2 zb ⊢
  replace Y1 := Lib.hid ((zb.block _ gx).trans Y1.out)
  replace Y2 := Lib.hid (show Boxed w2 _ _ _ from (zb.block _ gx1).trans Y2.out)
  have Z2 := Lib.hid (HB1.out.trans (zb.mono HB1.out.size))
  have k2 : w2.cell? ⟨w.heap.size, 2, none⟩ = some (.int .i64 J) := by rw [cell_of_row w2 _ _ _ _ _ Y1.out]; rfl
  have k3 := Y2.out.cell
  have B6 := Lib.hid b6
  have B7 := Lib.hid b7
  have B8 := Lib.hid b8
  have HZ2 := Lib.hid hz2
  clear b6 b7 b8 hz2 zb HB1 gx gx1
  have gx : w.heap.size < w2.heap.size := by have := HZ2.out; omega
  have gx1 : w.heap.size + 1 < w2.heap.size := by have := HZ2.out; omega
  have HK := Lib.hid (show ∀ x', Below w2.heap.size w2 x' → (fun w' => w'.cell? ⟨w.heap.size, 2, none⟩ = some (.int .i64 J) ∧ w'.cell? ⟨w.heap.size + 1, 0, none⟩ = some (.slice A k c) ∧ Below w2.heap.size w2 w') x' from fun x' hx =>
    ⟨(hx.cell (p := ⟨w.heap.size, 2, none⟩) gx).trans k2, (hx.cell (p := ⟨w.heap.size + 1, 0, none⟩) gx1).trans k3, hx⟩)
  have hHeld0 := HK.out _ (Below.refl _ _)
  have hn0 : w2.heap.size ≤ w2.heap.size := Nat.le_refl _
  have ZC := Lib.hid (Below.refl w2.heap.size w2).drew
  clear e0 e1
  go_wp2_with fail
  go_region_held3 (fun w' => w'.cell? ⟨w.heap.size, 2, none⟩ = some (.int .i64 J) ∧ w'.cell? ⟨w.heap.size + 1, 0, none⟩ = some (.slice A k c) ∧ Below w2.heap.size w2 w')
    (first | with_reducible exact hd_drew HK.out (fun _ h => h.2.2) (by assumption) | with_reducible exact hd_call HK.out (fun _ h => h.2.2) (by assumption) (by assumption) hn0)
    (first
    | (go_at_call 49; (refine (load_any A k c m 4 _ (HH.out.below (Z2.out.trans (ZC.out.mono Z2.out.size))) HN.out HS.out).mono ?_); rintro _ w3 ⟨rfl, z3⟩; replace ZC := Lib.hid (ZC.out.trans (z3.mono ZC.out.size)))
    | (go_at_call 48; (refine (places_at (at0 m 4) J _).mono ?_); rintro _ w4 ⟨rfl, p1, p2, hz4, z4⟩; have H3 := Lib.hid ZC.out.size; replace ZC := Lib.hid (ZC.out.trans (z4.mono ZC.out.size)); have P1 := Lib.hid p1; have P2 := Lib.hid p2; clear p1 p2))
  have HZ4 := Lib.hid hz4
  clear hHeld0 HK hn0 k2 k3 hz4 z4 z3
  go_wp2
  have hz2 := HZ2.out
  have h3 : w2.heap.size ≤ w3.heap.size := H3.out
  have hz4 := HZ4.out
  have hz1 := HZ1.out
  have hJT : ((J.toNat : Nat) : Int) = J := by have := HJ.out; omega
  have R0 := Lib.hid (show RL w w4.heap.size W D J S A k c N (at0 m 4) w1.heap.size w3.heap.size [] none 0 w4 from
    ⟨(ZC.out.block _ gx).trans Y1.out, (ZC.out.block _ gx1).trans Y2.out, (ZC.out.block _ (by omega)).trans B6.out, (ZC.out.block _ (by omega)).trans B7.out, own_nil _ _, (ZC.out.block _ (by omega)).trans B8.out, P1.out, P2.out, Z2.out.trans (ZC.out.mono Z2.out.size), Nat.le_refl _⟩)
  have hzw : w.heap.size ≤ w4.heap.size := by omega
  clear ZC P1 P2 B6 B7 B8 Y1 Y2 Z2 H3 HZ4 HZ2 HZ1 gx gx1
  refine (wpIn_wide (n := n)).1 ?_
  refine range_brk2 (n₀ := w.heap.size) (T := J.toNat) (id := 0) (p2 := 9) (q2 := 10) (gf := 74) (lb := #[.pointer (some ⟨w3.heap.size + 1, 0, none⟩), .pointer (some ⟨w3.heap.size, 0, none⟩)]) (e1 := fun i : Nat => .int .i64 (i : Int)) (e2 := fun i : Nat => .int .u64 ((at0 m 4 + (i : Int)) % 18446744073709551616)) rfl (enters_of Try.func74 (by kernel_rfl) rfl)
    (fun i W' => ∃ l R d, RL w w4.heap.size W D J S A k c N (at0 m 4) w1.heap.size w3.heap.size l R d W' ∧ Pl J m N i l) (Xl w W D J S m w1.heap.size)
    hzw ?stay ?stayx ⟨[], none, 0, R0.out, Pl.zero _ _ _⟩ ?seq ?assign ?body ?done ?stop
  case stay =>
    rintro i W' W'' ⟨l, R, d, r, hp⟩ hc
    exact ⟨l, R, d, r.cl hc, hp⟩
  case stayx => exact fun W' W'' h hc => h.cl hc
  case seq =>
    intro l' Jv Jx W' hI' hY' h0'
    exact places1_in _ l' (w3.heap.size + 1) w3.heap.size J.toNat (at0 m 4) (by have := HJ.out; omega) Jv Jx (fun i W hj => by
      obtain ⟨l, R, d, r, _⟩ := hI' i W hj
      rw [hJT]
      exact ⟨r.upto.cell, r.from_.cell⟩) hY' W' h0'
  case assign =>
    intro l' m' i W' K hK
    simp only [List.setIfInBounds_toArray, List.set_cons_succ, List.set_cons_zero] at hK ⊢
    gi_wp2
    exact hK
  case body =>
    rintro l' m' i W' ⟨l, R, d, r, hp⟩ hi
    simp only [List.setIfInBounds_toArray, List.set_cons_succ, List.set_cons_zero]
    have hiJ : (i : Int) < J := by omega
    obtain ⟨x, hx⟩ : ∃ x, (at0 m 4 + (i : Int)) % 18446744073709551616 = x := ⟨_, rfl⟩
    rw [hx]
    obtain ⟨Y, hY⟩ : ∃ Y, at0 m (sqI J x) = Y := ⟨_, rfl⟩
    have HX := Lib.hid (show U x by rw [← hx]; exact mod_U _)
    have HXX := Lib.hid hx
    have HY := Lib.hid hY
    have HP := Lib.hid hp
    have HR := Lib.hid r
    obtain ⟨gx, x0, x1, x2, x3⟩ := r.bx
    have km := r.mem.cell
    have gm := r.mem.lt
    have HK := Lib.hid (show ∀ x', Below W'.heap.size W' x' → (fun w' => w'.cell? ⟨w.heap.size, 0, none⟩ = some (.int .i64 W) ∧ w'.cell? ⟨w.heap.size, 1, none⟩ = some (.int .i64 D) ∧ w'.cell? ⟨w.heap.size, 2, none⟩ = some (.int .i64 J) ∧ w'.cell? ⟨w.heap.size, 3, none⟩ = some (.int .i64 S) ∧ w'.cell? ⟨w.heap.size + 1, 0, none⟩ = some (.slice A k c) ∧ Below W'.heap.size W' w') x' from fun x' hx => by
      obtain ⟨_, e0, e1, e2, e3⟩ := HR.out.bx.below hx
      exact ⟨e0, e1, e2, e3, (hx.cell (p := ⟨w.heap.size + 1, 0, none⟩) gm).trans km, hx⟩)
    have hHeld0 := HK.out _ (Below.refl _ _)
    have hnW : W'.heap.size ≤ W'.heap.size := Nat.le_refl _
    have ZC := Lib.hid (Below.refl W'.heap.size W').drew
    have HI := Lib.hid hi
    clear r hp hY hx hi
    gi_wp2
    refine wpIn_region_held_round (S := fun w' => w'.cell? ⟨w.heap.size, 0, none⟩ = some (.int .i64 W) ∧ w'.cell? ⟨w.heap.size, 1, none⟩ = some (.int .i64 D) ∧ w'.cell? ⟨w.heap.size, 2, none⟩ = some (.int .i64 J) ∧ w'.cell? ⟨w.heap.size, 3, none⟩ = some (.int .i64 S) ∧ w'.cell? ⟨w.heap.size + 1, 0, none⟩ = some (.slice A k c) ∧ Below W'.heap.size W' w') (by kernel_rfl) (lno_defer (by kernel_rfl)) (by rintro ⟨_, _, h⟩; exact h) (hd_drew HK.out (fun _ h => h.2.2.2.2.2) hHeld0) (fun hHeld => ?_)
    refine wpAnyH_take (i := 0) (oi := { dst := some 30, op := Go.Op.load 25 (Go.Operand.tmp 3), type := 25, pos := "deq.go:48", after := #[], guard := none }) (v := ?va1) rfl (by kernel_rfl) (by kernel_rfl) (by kernel_rfl) (fun _ _ _ h => h) (Or.inl ⟨by rfl, ?ya1⟩) (by assumption) ?ra1
    case ya1 => (intro w hSw; (try dsimp only at hSw); go_simp; (try with_reducible rfl))
    (try simp only [Act.put, List.setIfInBounds_toArray, List.set_cons_zero, List.set_cons_succ])
    refine wpAnyH_take (i := 1) (oi := { dst := some 31, op := Go.Op.load 23 (Go.Operand.tmp 2), type := 23, pos := "deq.go:48", after := #[], guard := none }) (v := ?va2) rfl (by kernel_rfl) (by kernel_rfl) (by kernel_rfl) (fun _ _ _ h => h) (Or.inl ⟨by rfl, ?ya2⟩) (by assumption) ?ra2
    case ya2 => (intro w hSw; (try dsimp only at hSw); go_simp; (try with_reducible rfl))
    (try simp only [Act.put, List.setIfInBounds_toArray, List.set_cons_zero, List.set_cons_succ])
    refine wpAnyH_take (i := 2) (oi := { dst := some 32, op := Go.Op.move (Go.Operand.tmp 10), type := 26, pos := "deq.go:48", after := #[], guard := none }) (v := ?va3) rfl (by kernel_rfl) (by kernel_rfl) (by kernel_rfl) (fun _ _ _ h => h) (Or.inl ⟨by rfl, ?ya3⟩) (by assumption) ?ra3
    case ya3 => (intro w hSw; (try dsimp only at hSw); go_simp; (try with_reducible rfl))
    (try simp only [Act.put, List.setIfInBounds_toArray, List.set_cons_zero, List.set_cons_succ])
    refine wpAnyH_ready (rs := [3]) (by kernel_rfl) (by simp) ?_
    refine (AllReadyH.cons (o := { dst := some 33, op := Go.Op.call { callee := Go.Callee.value (Go.Operand.func 50), args := #[Go.Operand.tmp 31, Go.Operand.tmp 32], argTypes := #[23, 26] }, type := 3, pos := "deq.go:48", after := #[{ on := 1, ground := Go.Ground.data }, { on := 2, ground := Go.Ground.data }], guard := none }) rfl (fun K hK => ?_) AllReadyH.nil)
    go_simp
    refine (Tells.of (seq_any W D J S x _ HX.out) (v' := .int .i64 (sqI J x)) (by rw [HSQ.out])).mono ?_
    rintro e u1 ⟨rfl, hb⟩
    go_wp2_with fail
    replace ZC := Lib.hid (ZC.out.trans (hb.mono ZC.out.size))
    refine hK.out _ _ (hd_call HK.out (fun _ h => h.2.2.2.2.2) hb hHeld hnW) (fun hHeld2 => ?_)
    clear hK K hHeld
    have hHeld := hHeld2
    clear hHeld2
    (try simp only [Act.put, List.setIfInBounds_toArray, List.set_cons_zero, List.set_cons_succ])
    refine wpAnyH_ready (rs := [4]) (by kernel_rfl) (by simp) ?_
    refine (AllReadyH.cons (o := { dst := some 34, op := Go.Op.call { callee := Go.Callee.value (Go.Operand.func 49), args := #[Go.Operand.tmp 30, Go.Operand.tmp 33], argTypes := #[25, 3] }, type := 26, pos := "deq.go:48", after := #[{ on := 0, ground := Go.Ground.data }, { on := 3, ground := Go.Ground.data }, { on := 3, ground := Go.Ground.chain }], guard := none }) rfl (fun K hK => ?_) AllReadyH.nil)
    go_simp
    refine (ret_of (load_any A k c m (sqI J x) _ (HH.out.below (HR.out.be.trans (ZC.out.mono HR.out.be.size))) HN.out HS.out) (v' := .int .u64 Y) (by rw [HY.out])).mono ?_
    rintro e u2 ⟨rfl, hb⟩
    go_wp2_with fail
    replace ZC := Lib.hid (ZC.out.trans (hb.mono ZC.out.size))
    refine hK.out _ _ (hd_call HK.out (fun _ h => h.2.2.2.2.2) hb hHeld hnW) (fun hHeld2 => ?_)
    clear hK K hHeld
    have hHeld := hHeld2
    clear hHeld2
    (try simp only [Act.put, List.setIfInBounds_toArray, List.set_cons_zero, List.set_cons_succ])
    refine wpAnyH_take (i := 5) (oi := { dst := some 11, op := Go.Op.assign (Go.Operand.tmp 34), type := 26, pos := "deq.go:48", after := #[{ on := 4, ground := Go.Ground.data }, { on := 4, ground := Go.Ground.chain }, { on := 0, ground := Go.Ground.phase }, { on := 1, ground := Go.Ground.phase }, { on := 2, ground := Go.Ground.phase }, { on := 3, ground := Go.Ground.phase }, { on := 4, ground := Go.Ground.phase }], guard := none }) (v := ?va4) rfl (by kernel_rfl) (by kernel_rfl) (by kernel_rfl) (fun _ _ _ h => h) (Or.inl ⟨by rfl, ?ya4⟩) (by assumption) ?ra4
    case ya4 => (intro w hSw; (try dsimp only at hSw); go_simp; (try with_reducible rfl))
    (try simp only [Act.put, List.setIfInBounds_toArray, List.set_cons_zero, List.set_cons_succ])
    refine wpAnyH_done (by kernel_rfl) ?_ _
    clear hHeld hHeld0 HK hnW x0 x1 x2 x3 km gx gm
    have R2 := Lib.hid (HR.out.cl (Cl.of_below ZC.out HR.out.be.size))
    have KO := Lib.hid (keeps_below ZC.out)
    have k6 := R2.out.many.cell
    obtain ⟨gx, x0, x1, x2, x3⟩ := R2.out.bx
    clear HR ZC
    by_cases hlt : (i : Int) < N
    · obtain ⟨H, hH⟩ : ∃ H, (tw J x + 1) % 18446744073709551616 = H := ⟨_, rfl⟩
      have SA := Lib.hid (seqAt_in HXX.out HY.out hH hlt)
      have HH2 := Lib.hid hH
      clear hH
      gi_wp2_with fail
      refine ⟨trivial, (fun h => by cases h), ?_⟩
      refine (CallsIn.inRound _ (callsIn_wide.2 (Tells.of (dhas_any W D J S x _ HJ.out HX.out) (v' := .int .u64 H) (by rw [HH2.out])))).mono ?_
      rintro _ u3 ⟨rfl, z3⟩
      have R3 := Lib.hid (R2.out.cl (Cl.of_below z3 R2.out.be.size))
      have KO3 := Lib.hid (KO.out.trans (keeps_below z3))
      clear x0 x1 x2 x3 k6 gx z3 R2 KO
      have k6 := R3.out.many.cell
      have k7 := R3.out.list.cell
      have f7 := R3.out.list.frozen
      have g7 := R3.out.list.lt
      have k8 := R3.out.is_.cell
      have f8 := R3.out.is_.frozen
      have g8 := R3.out.is_.lt
      cases hb : (Y == H)
      · have SB := Lib.hid (SA.out.trans hb)
        clear SA
        gi_wp2_with fail
        refine ⟨trivial, ?_⟩
        gi_wp2
        exact brkP_out (xl_out R3.out (ilst_bad HI.out (by rw [HL.out]; exact SB.out))) (KO3.out.trans ((KeepsOthers.setCell _ _ _).trans (KeepsOthers.setCell _ _ _)))
      · have SB := Lib.hid (SA.out.trans hb)
        clear SA k8 f8 g8 k6
        obtain ⟨V, hV⟩ : ∃ V, at0 m (vlI J x) = V := ⟨_, rfl⟩
        have HV := Lib.hid hV
        have hll : l.length ≤ 16 := by have := HJ.out; rw [HP.out.2]; simp; omega
        have HLL := Lib.hid hll
        have h7n : w1.heap.size + 1 < w4.heap.size := by omega
        have hcn : w.heap.size < w4.heap.size := by omega
        have hmn : w.heap.size + 1 < w4.heap.size := by omega
        have hc7 : w.heap.size ≠ w1.heap.size + 1 := by omega
        have hm7 : w.heap.size + 1 ≠ w1.heap.size + 1 := by omega
        have h4 := R3.out.ls
        have HK := Lib.hid (show ∀ x', LKq w4.heap.size (w1.heap.size + 1) u3 x' → (fun w' => w'.cell? ⟨w.heap.size, 0, none⟩ = some (.int .i64 W) ∧ w'.cell? ⟨w.heap.size, 1, none⟩ = some (.int .i64 D) ∧ w'.cell? ⟨w.heap.size, 2, none⟩ = some (.int .i64 J) ∧ w'.cell? ⟨w.heap.size, 3, none⟩ = some (.int .i64 S) ∧ w'.cell? ⟨w.heap.size + 1, 0, none⟩ = some (.slice A k c) ∧ LKq w4.heap.size (w1.heap.size + 1) u3 w') x' from fun x' hx => by
          have e1 := hx.same w.heap.size hcn hc7
          have e2 := hx.same (w.heap.size + 1) hmn hm7
          obtain ⟨_, x0, x1, x2, x3⟩ := R3.out.bx
          exact ⟨(World.cell?_of_block (a := ⟨w.heap.size, 0, none⟩) e1).trans x0, (World.cell?_of_block (a := ⟨w.heap.size, 1, none⟩) e1).trans x1, (World.cell?_of_block (a := ⟨w.heap.size, 2, none⟩) e1).trans x2, (World.cell?_of_block (a := ⟨w.heap.size, 3, none⟩) e1).trans x3, (World.cell?_of_block (a := ⟨w.heap.size + 1, 0, none⟩) e2).trans R3.out.mem.cell, hx⟩)
        have hHeld0 := HK.out _ (LKq.refl _ _ _)
        have ZC := Lib.hid (Below.refl u3.heap.size u3).drew
        have HIN := Lib.hid (show Pl J m N (i + 1) (l ++ [V]) by rw [← HV.out, ← HXX.out]; exact HP.out.in_ SB.out hlt)
        have HB4 := Lib.hid (show w.heap.size + 1 < w1.heap.size ∧ w1.heap.size + 1 + 1 < w3.heap.size ∧ w3.heap.size + 1 < w4.heap.size by omega)
        clear hV hll hc7 hm7 hcn hmn SB
        gi_wp2
        clear hb
        refine wpIn_region_held_round (S := fun w' => w'.cell? ⟨w.heap.size, 0, none⟩ = some (.int .i64 W) ∧ w'.cell? ⟨w.heap.size, 1, none⟩ = some (.int .i64 D) ∧ w'.cell? ⟨w.heap.size, 2, none⟩ = some (.int .i64 J) ∧ w'.cell? ⟨w.heap.size, 3, none⟩ = some (.int .i64 S) ∧ w'.cell? ⟨w.heap.size + 1, 0, none⟩ = some (.slice A k c) ∧ LKq w4.heap.size (w1.heap.size + 1) u3 w') (by kernel_rfl) (lno_defer (by kernel_rfl)) (by rintro ⟨_, _, h⟩; exact h) (lkq_drew HK.out (fun _ h => h.2.2.2.2.2) hHeld0) (fun hHeld => ?_)
        refine wpAnyH_take (i := 1) (oi := { dst := some 47, op := Go.Op.load 25 (Go.Operand.tmp 3), type := 25, pos := "deq.go:51", after := #[], guard := none }) (v := ?vb1) rfl (by kernel_rfl) (by kernel_rfl) (by kernel_rfl) (fun _ _ _ h => h) (Or.inl ⟨by rfl, ?yb1⟩) (by assumption) ?rb1
        case yb1 => (intro w hSw; (try dsimp only at hSw); go_simp; (try with_reducible rfl))
        (try simp only [Act.put, List.setIfInBounds_toArray, List.set_cons_zero, List.set_cons_succ])
        refine wpAnyH_take (i := 2) (oi := { dst := some 48, op := Go.Op.load 23 (Go.Operand.tmp 2), type := 23, pos := "deq.go:51", after := #[], guard := none }) (v := ?vb2) rfl (by kernel_rfl) (by kernel_rfl) (by kernel_rfl) (fun _ _ _ h => h) (Or.inl ⟨by rfl, ?yb2⟩) (by assumption) ?rb2
        case yb2 => (intro w hSw; (try dsimp only at hSw); go_simp; (try with_reducible rfl))
        (try simp only [Act.put, List.setIfInBounds_toArray, List.set_cons_zero, List.set_cons_succ])
        refine wpAnyH_take (i := 3) (oi := { dst := some 49, op := Go.Op.move (Go.Operand.tmp 10), type := 26, pos := "deq.go:51", after := #[], guard := none }) (v := ?vb3) rfl (by kernel_rfl) (by kernel_rfl) (by kernel_rfl) (fun _ _ _ h => h) (Or.inl ⟨by rfl, ?yb3⟩) (by assumption) ?rb3
        case yb3 => (intro w hSw; (try dsimp only at hSw); go_simp; (try with_reducible rfl))
        (try simp only [Act.put, List.setIfInBounds_toArray, List.set_cons_zero, List.set_cons_succ])
        refine wpAnyH_ready (rs := [0, 4]) (by kernel_rfl) (by simp) ?_
        refine (AllReadyH.cons (o := { dst := some 46, op := Go.Op.load 24 (Go.Operand.tmp 7), type := 24, pos := "deq.go:51", after := #[], guard := none }) rfl (fun K hK => ?_) (AllReadyH.cons (o := { dst := some 50, op := Go.Op.call { callee := Go.Callee.value (Go.Operand.func 52), args := #[Go.Operand.tmp 48, Go.Operand.tmp 49], argTypes := #[23, 26] }, type := 3, pos := "deq.go:51", after := #[{ on := 2, ground := Go.Ground.data }, { on := 3, ground := Go.Ground.data }], guard := none }) rfl (fun K hK => ?_) AllReadyH.nil))
        · go_simp
          refine hK.out _ _ (hHeld) (fun hHeld2 => ?_)
          clear hK K hHeld
          have hHeld := hHeld2
          clear hHeld2
          (try simp only [Act.put, List.setIfInBounds_toArray, List.set_cons_zero, List.set_cons_succ])
          refine wpAnyH_ready (rs := [4]) (by kernel_rfl) (by simp) ?_
          refine (AllReadyH.cons (o := { dst := some 50, op := Go.Op.call { callee := Go.Callee.value (Go.Operand.func 52), args := #[Go.Operand.tmp 48, Go.Operand.tmp 49], argTypes := #[23, 26] }, type := 3, pos := "deq.go:51", after := #[{ on := 2, ground := Go.Ground.data }, { on := 3, ground := Go.Ground.data }], guard := none }) rfl (fun K hK => ?_) AllReadyH.nil)
          go_simp
          refine (Tells.of (val_any W D J S x _ HX.out) (v' := .int .i64 (vlI J x)) (by rw [HVL.out])).mono ?_
          rintro e u4 ⟨rfl, hb⟩
          go_wp2_with fail
          replace ZC := Lib.hid (ZC.out.trans (hb.mono ZC.out.size))
          have k7 := (R3.out.cl (Cl.of_below ZC.out R3.out.be.size)).list.cell
          have g7 := (R3.out.cl (Cl.of_below ZC.out R3.out.be.size)).list.lt
          refine hK.out _ _ (lkq_call HK.out (fun _ h => h.2.2.2.2.2) h4 hb hHeld) (fun hHeld2 => ?_)
          clear hK K hHeld
          have hHeld := hHeld2
          clear hHeld2
          (try simp only [Act.put, List.setIfInBounds_toArray, List.set_cons_zero, List.set_cons_succ])
          refine wpAnyH_ready (rs := [5]) (by kernel_rfl) (by simp) ?_
          refine (AllReadyH.cons (o := { dst := some 51, op := Go.Op.call { callee := Go.Callee.value (Go.Operand.func 49), args := #[Go.Operand.tmp 47, Go.Operand.tmp 50], argTypes := #[25, 3] }, type := 26, pos := "deq.go:51", after := #[{ on := 1, ground := Go.Ground.data }, { on := 4, ground := Go.Ground.data }, { on := 4, ground := Go.Ground.chain }], guard := none }) rfl (fun K hK => ?_) AllReadyH.nil)
          go_simp
          refine (ret_of (load_any A k c m (vlI J x) _ (HH.out.below (R3.out.cl (Cl.of_below ZC.out R3.out.be.size)).be) HN.out HS.out) (v' := .int .u64 V) (by rw [HV.out])).mono ?_
          rintro e u5 ⟨rfl, hb⟩
          go_wp2_with fail
          replace ZC := Lib.hid (ZC.out.trans (hb.mono ZC.out.size))
          have k7 := (R3.out.cl (Cl.of_below ZC.out R3.out.be.size)).list.cell
          have g7 := (R3.out.cl (Cl.of_below ZC.out R3.out.be.size)).list.lt
          refine hK.out _ _ (lkq_call HK.out (fun _ h => h.2.2.2.2.2) h4 hb hHeld) (fun hHeld2 => ?_)
          clear hK K hHeld
          have hHeld := hHeld2
          clear hHeld2
          (try simp only [Act.put, List.setIfInBounds_toArray, List.set_cons_zero, List.set_cons_succ])
          refine wpAnyH_ready (rs := [6]) (by kernel_rfl) (by simp) ?_
          refine (AllReadyH.cons (o := { dst := some 52, op := Go.Op.buildSlice 24 1 #[(0, Go.Operand.tmp 51)], type := 24, pos := "deq.go:51", after := #[{ on := 5, ground := Go.Ground.data }], guard := none }) rfl (fun K hK => ?_) AllReadyH.nil)
          go_simp
          refine hK.out _ _ (lkq_alloc HK.out (fun _ h => h.2.2.2.2.2) h4 _ hHeld) (fun hHeld2 => ?_)
          clear hK K hHeld
          have hHeld := hHeld2
          clear hHeld2
          (try simp only [Act.put, List.setIfInBounds_toArray, List.set_cons_zero, List.set_cons_succ])
          refine wpAnyH_ready (rs := [7]) (by kernel_rfl) (by simp) ?_
          refine (AllReadyH.cons (o := { dst := some 53, op := Go.Op.call { callee := Go.Callee.builtin Go.Builtin.append, args := #[Go.Operand.tmp 46, Go.Operand.tmp 52], argTypes := #[24, 24] }, type := 24, pos := "deq.go:51", after := #[{ on := 0, ground := Go.Ground.data }, { on := 6, ground := Go.Ground.data }, { on := 5, ground := Go.Ground.chain }], guard := none }) rfl (fun K hK => ?_) AllReadyH.nil)
          refine step_app1 (A := R) (ad := ⟨u5.heap.size, 0, none⟩) (n := l.length) (c := d) (d := 1) (l := l) (x := V) ⟨_, _, rfl, rfl, rfl⟩ rfl rfl (R3.out.cl (Cl.of_below (ZC.out.alloc ZC.out.size _) R3.out.be.size)).own (Boxed.new u5 26 (.int .u64 V)).cell (by have := HLL.out; omega) (Nat.le_trans R3.out.ls (ZC.out.alloc ZC.out.size _).size) ?_
          intro R' d' u6 o6 z6 kk6
          have zz : Below w4.heap.size u3 u6 := ((ZC.out.alloc ZC.out.size _).mono R3.out.ls).trans z6
          have x6 : Boxed u6 (w1.heap.size + 1) 24 (.slice R l.length d) := (zz.block _ h7n).trans R3.out.list
          have k7 := x6.cell
          have f7 := x6.frozen
          have g7 := x6.lt
          refine hK.out _ _ (lkq_low HK.out (fun _ h => h.2.2.2.2.2) z6 hHeld) (fun hHeld2 => ?_)
          clear hK K hHeld
          have hHeld := hHeld2
          clear hHeld2
          (try simp only [Act.put, List.setIfInBounds_toArray, List.set_cons_zero, List.set_cons_succ])
          refine wpAnyH_ready (rs := [8]) (by kernel_rfl) (by simp) ?_
          refine (AllReadyH.cons (o := { dst := none, op := Go.Op.store 24 (Go.Operand.tmp 7) (Go.Operand.tmp 53), type := 0, pos := "deq.go:51", after := #[{ on := 7, ground := Go.Ground.data }, { on := 7, ground := Go.Ground.chain }, { on := 0, ground := Go.Ground.phase }, { on := 1, ground := Go.Ground.phase }, { on := 2, ground := Go.Ground.phase }, { on := 3, ground := Go.Ground.phase }, { on := 4, ground := Go.Ground.phase }, { on := 5, ground := Go.Ground.phase }, { on := 6, ground := Go.Ground.phase }, { on := 7, ground := Go.Ground.phase }], guard := none }) rfl (fun K hK => ?_) AllReadyH.nil)
          go_simp
          refine hK.out _ _ (lkq_set HK.out (fun _ h => h.2.2.2.2.2) _ hHeld) (fun hHeld2 => ?_)
          clear hK K hHeld
          have hHeld := hHeld2
          clear hHeld2
          (try simp only [Act.put, List.setIfInBounds_toArray, List.set_cons_zero, List.set_cons_succ])
          refine wpAnyH_done (by kernel_rfl) ?_ _
          clear hHeld
          gi_wp2
          exact brkP_on ⟨l ++ [V], R', d', R3.out.more HB4.out.1 HB4.out.2.1 HB4.out.2.2 zz o6, HIN.out⟩ (((KO3.out.trans (keeps_below (ZC.out.alloc ZC.out.size _))).trans kk6).trans (KeepsOthers.setCell _ _ _))
        · go_simp
          refine (Tells.of (val_any W D J S x _ HX.out) (v' := .int .i64 (vlI J x)) (by rw [HVL.out])).mono ?_
          rintro e u4 ⟨rfl, hb⟩
          go_wp2_with fail
          replace ZC := Lib.hid (ZC.out.trans (hb.mono ZC.out.size))
          have k7 := (R3.out.cl (Cl.of_below ZC.out R3.out.be.size)).list.cell
          have g7 := (R3.out.cl (Cl.of_below ZC.out R3.out.be.size)).list.lt
          refine hK.out _ _ (lkq_call HK.out (fun _ h => h.2.2.2.2.2) h4 hb hHeld) (fun hHeld2 => ?_)
          clear hK K hHeld
          have hHeld := hHeld2
          clear hHeld2
          (try simp only [Act.put, List.setIfInBounds_toArray, List.set_cons_zero, List.set_cons_succ])
          refine wpAnyH_ready (rs := [0, 5]) (by kernel_rfl) (by simp) ?_
          refine (AllReadyH.cons (o := { dst := some 46, op := Go.Op.load 24 (Go.Operand.tmp 7), type := 24, pos := "deq.go:51", after := #[], guard := none }) rfl (fun K hK => ?_) (AllReadyH.cons (o := { dst := some 51, op := Go.Op.call { callee := Go.Callee.value (Go.Operand.func 49), args := #[Go.Operand.tmp 47, Go.Operand.tmp 50], argTypes := #[25, 3] }, type := 26, pos := "deq.go:51", after := #[{ on := 1, ground := Go.Ground.data }, { on := 4, ground := Go.Ground.data }, { on := 4, ground := Go.Ground.chain }], guard := none }) rfl (fun K hK => ?_) AllReadyH.nil))
          · go_simp
            refine hK.out _ _ (hHeld) (fun hHeld2 => ?_)
            clear hK K hHeld
            have hHeld := hHeld2
            clear hHeld2
            (try simp only [Act.put, List.setIfInBounds_toArray, List.set_cons_zero, List.set_cons_succ])
            refine wpAnyH_ready (rs := [5]) (by kernel_rfl) (by simp) ?_
            refine (AllReadyH.cons (o := { dst := some 51, op := Go.Op.call { callee := Go.Callee.value (Go.Operand.func 49), args := #[Go.Operand.tmp 47, Go.Operand.tmp 50], argTypes := #[25, 3] }, type := 26, pos := "deq.go:51", after := #[{ on := 1, ground := Go.Ground.data }, { on := 4, ground := Go.Ground.data }, { on := 4, ground := Go.Ground.chain }], guard := none }) rfl (fun K hK => ?_) AllReadyH.nil)
            go_simp
            refine (ret_of (load_any A k c m (vlI J x) _ (HH.out.below (R3.out.cl (Cl.of_below ZC.out R3.out.be.size)).be) HN.out HS.out) (v' := .int .u64 V) (by rw [HV.out])).mono ?_
            rintro e u5 ⟨rfl, hb⟩
            go_wp2_with fail
            replace ZC := Lib.hid (ZC.out.trans (hb.mono ZC.out.size))
            have k7 := (R3.out.cl (Cl.of_below ZC.out R3.out.be.size)).list.cell
            have g7 := (R3.out.cl (Cl.of_below ZC.out R3.out.be.size)).list.lt
            refine hK.out _ _ (lkq_call HK.out (fun _ h => h.2.2.2.2.2) h4 hb hHeld) (fun hHeld2 => ?_)
            clear hK K hHeld
            have hHeld := hHeld2
            clear hHeld2
            (try simp only [Act.put, List.setIfInBounds_toArray, List.set_cons_zero, List.set_cons_succ])
            refine wpAnyH_ready (rs := [6]) (by kernel_rfl) (by simp) ?_
            refine (AllReadyH.cons (o := { dst := some 52, op := Go.Op.buildSlice 24 1 #[(0, Go.Operand.tmp 51)], type := 24, pos := "deq.go:51", after := #[{ on := 5, ground := Go.Ground.data }], guard := none }) rfl (fun K hK => ?_) AllReadyH.nil)
            go_simp
            refine hK.out _ _ (lkq_alloc HK.out (fun _ h => h.2.2.2.2.2) h4 _ hHeld) (fun hHeld2 => ?_)
            clear hK K hHeld
            have hHeld := hHeld2
            clear hHeld2
            (try simp only [Act.put, List.setIfInBounds_toArray, List.set_cons_zero, List.set_cons_succ])
            refine wpAnyH_ready (rs := [7]) (by kernel_rfl) (by simp) ?_
            refine (AllReadyH.cons (o := { dst := some 53, op := Go.Op.call { callee := Go.Callee.builtin Go.Builtin.append, args := #[Go.Operand.tmp 46, Go.Operand.tmp 52], argTypes := #[24, 24] }, type := 24, pos := "deq.go:51", after := #[{ on := 0, ground := Go.Ground.data }, { on := 6, ground := Go.Ground.data }, { on := 5, ground := Go.Ground.chain }], guard := none }) rfl (fun K hK => ?_) AllReadyH.nil)
            refine step_app1 (A := R) (ad := ⟨u5.heap.size, 0, none⟩) (n := l.length) (c := d) (d := 1) (l := l) (x := V) ⟨_, _, rfl, rfl, rfl⟩ rfl rfl (R3.out.cl (Cl.of_below (ZC.out.alloc ZC.out.size _) R3.out.be.size)).own (Boxed.new u5 26 (.int .u64 V)).cell (by have := HLL.out; omega) (Nat.le_trans R3.out.ls (ZC.out.alloc ZC.out.size _).size) ?_
            intro R' d' u6 o6 z6 kk6
            have zz : Below w4.heap.size u3 u6 := ((ZC.out.alloc ZC.out.size _).mono R3.out.ls).trans z6
            have x6 : Boxed u6 (w1.heap.size + 1) 24 (.slice R l.length d) := (zz.block _ h7n).trans R3.out.list
            have k7 := x6.cell
            have f7 := x6.frozen
            have g7 := x6.lt
            refine hK.out _ _ (lkq_low HK.out (fun _ h => h.2.2.2.2.2) z6 hHeld) (fun hHeld2 => ?_)
            clear hK K hHeld
            have hHeld := hHeld2
            clear hHeld2
            (try simp only [Act.put, List.setIfInBounds_toArray, List.set_cons_zero, List.set_cons_succ])
            refine wpAnyH_ready (rs := [8]) (by kernel_rfl) (by simp) ?_
            refine (AllReadyH.cons (o := { dst := none, op := Go.Op.store 24 (Go.Operand.tmp 7) (Go.Operand.tmp 53), type := 0, pos := "deq.go:51", after := #[{ on := 7, ground := Go.Ground.data }, { on := 7, ground := Go.Ground.chain }, { on := 0, ground := Go.Ground.phase }, { on := 1, ground := Go.Ground.phase }, { on := 2, ground := Go.Ground.phase }, { on := 3, ground := Go.Ground.phase }, { on := 4, ground := Go.Ground.phase }, { on := 5, ground := Go.Ground.phase }, { on := 6, ground := Go.Ground.phase }, { on := 7, ground := Go.Ground.phase }], guard := none }) rfl (fun K hK => ?_) AllReadyH.nil)
            go_simp
            refine hK.out _ _ (lkq_set HK.out (fun _ h => h.2.2.2.2.2) _ hHeld) (fun hHeld2 => ?_)
            clear hK K hHeld
            have hHeld := hHeld2
            clear hHeld2
            (try simp only [Act.put, List.setIfInBounds_toArray, List.set_cons_zero, List.set_cons_succ])
            refine wpAnyH_done (by kernel_rfl) ?_ _
            clear hHeld
            gi_wp2
            exact brkP_on ⟨l ++ [V], R', d', R3.out.more HB4.out.1 HB4.out.2.1 HB4.out.2.2 zz o6, HIN.out⟩ (((KO3.out.trans (keeps_below (ZC.out.alloc ZC.out.size _))).trans kk6).trans (KeepsOthers.setCell _ _ _))
          · go_simp
            refine (ret_of (load_any A k c m (vlI J x) _ (HH.out.below (R3.out.cl (Cl.of_below ZC.out R3.out.be.size)).be) HN.out HS.out) (v' := .int .u64 V) (by rw [HV.out])).mono ?_
            rintro e u5 ⟨rfl, hb⟩
            go_wp2_with fail
            replace ZC := Lib.hid (ZC.out.trans (hb.mono ZC.out.size))
            have k7 := (R3.out.cl (Cl.of_below ZC.out R3.out.be.size)).list.cell
            have g7 := (R3.out.cl (Cl.of_below ZC.out R3.out.be.size)).list.lt
            refine hK.out _ _ (lkq_call HK.out (fun _ h => h.2.2.2.2.2) h4 hb hHeld) (fun hHeld2 => ?_)
            clear hK K hHeld
            have hHeld := hHeld2
            clear hHeld2
            (try simp only [Act.put, List.setIfInBounds_toArray, List.set_cons_zero, List.set_cons_succ])
            refine wpAnyH_ready (rs := [0, 6]) (by kernel_rfl) (by simp) ?_
            refine (AllReadyH.cons (o := { dst := some 46, op := Go.Op.load 24 (Go.Operand.tmp 7), type := 24, pos := "deq.go:51", after := #[], guard := none }) rfl (fun K hK => ?_) (AllReadyH.cons (o := { dst := some 52, op := Go.Op.buildSlice 24 1 #[(0, Go.Operand.tmp 51)], type := 24, pos := "deq.go:51", after := #[{ on := 5, ground := Go.Ground.data }], guard := none }) rfl (fun K hK => ?_) AllReadyH.nil))
            · go_simp
              refine hK.out _ _ (hHeld) (fun hHeld2 => ?_)
              clear hK K hHeld
              have hHeld := hHeld2
              clear hHeld2
              (try simp only [Act.put, List.setIfInBounds_toArray, List.set_cons_zero, List.set_cons_succ])
              refine wpAnyH_ready (rs := [6]) (by kernel_rfl) (by simp) ?_
              refine (AllReadyH.cons (o := { dst := some 52, op := Go.Op.buildSlice 24 1 #[(0, Go.Operand.tmp 51)], type := 24, pos := "deq.go:51", after := #[{ on := 5, ground := Go.Ground.data }], guard := none }) rfl (fun K hK => ?_) AllReadyH.nil)
              go_simp
              refine hK.out _ _ (lkq_alloc HK.out (fun _ h => h.2.2.2.2.2) h4 _ hHeld) (fun hHeld2 => ?_)
              clear hK K hHeld
              have hHeld := hHeld2
              clear hHeld2
              (try simp only [Act.put, List.setIfInBounds_toArray, List.set_cons_zero, List.set_cons_succ])
              refine wpAnyH_ready (rs := [7]) (by kernel_rfl) (by simp) ?_
              refine (AllReadyH.cons (o := { dst := some 53, op := Go.Op.call { callee := Go.Callee.builtin Go.Builtin.append, args := #[Go.Operand.tmp 46, Go.Operand.tmp 52], argTypes := #[24, 24] }, type := 24, pos := "deq.go:51", after := #[{ on := 0, ground := Go.Ground.data }, { on := 6, ground := Go.Ground.data }, { on := 5, ground := Go.Ground.chain }], guard := none }) rfl (fun K hK => ?_) AllReadyH.nil)
              refine step_app1 (A := R) (ad := ⟨u5.heap.size, 0, none⟩) (n := l.length) (c := d) (d := 1) (l := l) (x := V) ⟨_, _, rfl, rfl, rfl⟩ rfl rfl (R3.out.cl (Cl.of_below (ZC.out.alloc ZC.out.size _) R3.out.be.size)).own (Boxed.new u5 26 (.int .u64 V)).cell (by have := HLL.out; omega) (Nat.le_trans R3.out.ls (ZC.out.alloc ZC.out.size _).size) ?_
              intro R' d' u6 o6 z6 kk6
              have zz : Below w4.heap.size u3 u6 := ((ZC.out.alloc ZC.out.size _).mono R3.out.ls).trans z6
              have x6 : Boxed u6 (w1.heap.size + 1) 24 (.slice R l.length d) := (zz.block _ h7n).trans R3.out.list
              have k7 := x6.cell
              have f7 := x6.frozen
              have g7 := x6.lt
              refine hK.out _ _ (lkq_low HK.out (fun _ h => h.2.2.2.2.2) z6 hHeld) (fun hHeld2 => ?_)
              clear hK K hHeld
              have hHeld := hHeld2
              clear hHeld2
              (try simp only [Act.put, List.setIfInBounds_toArray, List.set_cons_zero, List.set_cons_succ])
              refine wpAnyH_ready (rs := [8]) (by kernel_rfl) (by simp) ?_
              refine (AllReadyH.cons (o := { dst := none, op := Go.Op.store 24 (Go.Operand.tmp 7) (Go.Operand.tmp 53), type := 0, pos := "deq.go:51", after := #[{ on := 7, ground := Go.Ground.data }, { on := 7, ground := Go.Ground.chain }, { on := 0, ground := Go.Ground.phase }, { on := 1, ground := Go.Ground.phase }, { on := 2, ground := Go.Ground.phase }, { on := 3, ground := Go.Ground.phase }, { on := 4, ground := Go.Ground.phase }, { on := 5, ground := Go.Ground.phase }, { on := 6, ground := Go.Ground.phase }, { on := 7, ground := Go.Ground.phase }], guard := none }) rfl (fun K hK => ?_) AllReadyH.nil)
              go_simp
              refine hK.out _ _ (lkq_set HK.out (fun _ h => h.2.2.2.2.2) _ hHeld) (fun hHeld2 => ?_)
              clear hK K hHeld
              have hHeld := hHeld2
              clear hHeld2
              (try simp only [Act.put, List.setIfInBounds_toArray, List.set_cons_zero, List.set_cons_succ])
              refine wpAnyH_done (by kernel_rfl) ?_ _
              clear hHeld
              gi_wp2
              exact brkP_on ⟨l ++ [V], R', d', R3.out.more HB4.out.1 HB4.out.2.1 HB4.out.2.2 zz o6, HIN.out⟩ (((KO3.out.trans (keeps_below (ZC.out.alloc ZC.out.size _))).trans kk6).trans (KeepsOthers.setCell _ _ _))
            · go_simp
              refine hK.out _ _ (lkq_alloc HK.out (fun _ h => h.2.2.2.2.2) h4 _ hHeld) (fun hHeld2 => ?_)
              clear hK K hHeld
              have hHeld := hHeld2
              clear hHeld2
              (try simp only [Act.put, List.setIfInBounds_toArray, List.set_cons_zero, List.set_cons_succ])
              refine wpAnyH_ready (rs := [0]) (by kernel_rfl) (by simp) ?_
              refine (AllReadyH.cons (o := { dst := some 46, op := Go.Op.load 24 (Go.Operand.tmp 7), type := 24, pos := "deq.go:51", after := #[], guard := none }) rfl (fun K hK => ?_) AllReadyH.nil)
              go_simp
              refine hK.out _ _ (hHeld) (fun hHeld2 => ?_)
              clear hK K hHeld
              have hHeld := hHeld2
              clear hHeld2
              (try simp only [Act.put, List.setIfInBounds_toArray, List.set_cons_zero, List.set_cons_succ])
              refine wpAnyH_ready (rs := [7]) (by kernel_rfl) (by simp) ?_
              refine (AllReadyH.cons (o := { dst := some 53, op := Go.Op.call { callee := Go.Callee.builtin Go.Builtin.append, args := #[Go.Operand.tmp 46, Go.Operand.tmp 52], argTypes := #[24, 24] }, type := 24, pos := "deq.go:51", after := #[{ on := 0, ground := Go.Ground.data }, { on := 6, ground := Go.Ground.data }, { on := 5, ground := Go.Ground.chain }], guard := none }) rfl (fun K hK => ?_) AllReadyH.nil)
              refine step_app1 (A := R) (ad := ⟨u5.heap.size, 0, none⟩) (n := l.length) (c := d) (d := 1) (l := l) (x := V) ⟨_, _, rfl, rfl, rfl⟩ rfl rfl (R3.out.cl (Cl.of_below (ZC.out.alloc ZC.out.size _) R3.out.be.size)).own (Boxed.new u5 26 (.int .u64 V)).cell (by have := HLL.out; omega) (Nat.le_trans R3.out.ls (ZC.out.alloc ZC.out.size _).size) ?_
              intro R' d' u6 o6 z6 kk6
              have zz : Below w4.heap.size u3 u6 := ((ZC.out.alloc ZC.out.size _).mono R3.out.ls).trans z6
              have x6 : Boxed u6 (w1.heap.size + 1) 24 (.slice R l.length d) := (zz.block _ h7n).trans R3.out.list
              have k7 := x6.cell
              have f7 := x6.frozen
              have g7 := x6.lt
              refine hK.out _ _ (lkq_low HK.out (fun _ h => h.2.2.2.2.2) z6 hHeld) (fun hHeld2 => ?_)
              clear hK K hHeld
              have hHeld := hHeld2
              clear hHeld2
              (try simp only [Act.put, List.setIfInBounds_toArray, List.set_cons_zero, List.set_cons_succ])
              refine wpAnyH_ready (rs := [8]) (by kernel_rfl) (by simp) ?_
              refine (AllReadyH.cons (o := { dst := none, op := Go.Op.store 24 (Go.Operand.tmp 7) (Go.Operand.tmp 53), type := 0, pos := "deq.go:51", after := #[{ on := 7, ground := Go.Ground.data }, { on := 7, ground := Go.Ground.chain }, { on := 0, ground := Go.Ground.phase }, { on := 1, ground := Go.Ground.phase }, { on := 2, ground := Go.Ground.phase }, { on := 3, ground := Go.Ground.phase }, { on := 4, ground := Go.Ground.phase }, { on := 5, ground := Go.Ground.phase }, { on := 6, ground := Go.Ground.phase }, { on := 7, ground := Go.Ground.phase }], guard := none }) rfl (fun K hK => ?_) AllReadyH.nil)
              go_simp
              refine hK.out _ _ (lkq_set HK.out (fun _ h => h.2.2.2.2.2) _ hHeld) (fun hHeld2 => ?_)
              clear hK K hHeld
              have hHeld := hHeld2
              clear hHeld2
              (try simp only [Act.put, List.setIfInBounds_toArray, List.set_cons_zero, List.set_cons_succ])
              refine wpAnyH_done (by kernel_rfl) ?_ _
              clear hHeld
              gi_wp2
              exact brkP_on ⟨l ++ [V], R', d', R3.out.more HB4.out.1 HB4.out.2.1 HB4.out.2.2 zz o6, HIN.out⟩ (((KO3.out.trans (keeps_below (ZC.out.alloc ZC.out.size _))).trans kk6).trans (KeepsOthers.setCell _ _ _))
    · obtain ⟨H, hH⟩ : ∃ H, tw J x % 18446744073709551616 = H := ⟨_, rfl⟩
      have SA := Lib.hid (seqAt_out HXX.out HY.out hH hlt)
      have HH2 := Lib.hid hH
      clear hH
      gi_wp2_with fail
      refine ⟨trivial, ?_⟩
      gi_wp2_with fail
      refine ⟨trivial, (fun h => by cases h), ?_⟩
      refine (CallsIn.inRound _ (callsIn_wide.2 (Tells.of (dfree_any W D J S x _ HJ.out HX.out) (v' := .int .u64 H) (by rw [HH2.out])))).mono ?_
      rintro _ u3 ⟨rfl, z3⟩
      have R3 := Lib.hid (R2.out.cl (Cl.of_below z3 R2.out.be.size))
      have KO3 := Lib.hid (KO.out.trans (keeps_below z3))
      clear x0 x1 x2 x3 k6 gx z3 R2 KO
      have k7 := R3.out.list.cell
      have f7 := R3.out.list.frozen
      have g7 := R3.out.list.lt
      have k8 := R3.out.is_.cell
      have f8 := R3.out.is_.frozen
      have g8 := R3.out.is_.lt
      cases hb : (Y == H)
      · have SB := Lib.hid (SA.out.trans hb)
        clear SA
        gi_wp2
        exact brkP_out (xl_out R3.out (ilst_bad HI.out (by rw [HL.out]; exact SB.out))) (KO3.out.trans ((KeepsOthers.setCell _ _ _).trans (KeepsOthers.setCell _ _ _)))
      · have SB := Lib.hid (SA.out.trans hb)
        clear SA
        gi_wp2
        exact brkP_on ⟨l, R, d, R3.out, HP.out.out_ SB.out (by omega)⟩ KO3.out
  case done =>
    rintro Dm W' hD ⟨l, R, d, r, hp⟩ hK
    have el : ilst W D J S m = some l := Pl.done (by rw [HL.out]; exact hp) (by rw [HL.out]; exact HN0.out) (by rw [HL.out]; exact HN1.out)
    have k7 := r.list.cell
    have k8 := r.is_.cell
    have HR := Lib.hid r
    have HK2 := Lib.hid hK
    have EL := Lib.hid el
    clear r hp hK el
    go_wp2
    go_region
    all_goals
      go_wp2
      change LeavesInM Fence.wide n Try.prog Try.f23 _ _ [mark Dm] .returning _
      refine leaves_mark (n₀ := w.heap.size) Dm _ HK2.out (by omega) ?_
      intro W2 hc _ _
      have hc2 : Cl w.heap.size W' W2 := Cl.trans ⟨(Below.refl _ _).drew, fun _ _ h _ => h⟩ hc
      have r2 := HR.out.cl hc2
      rw [EL.out]
      exact ⟨.tuple #[.slice R l.length d, .bool true], by simp [results, Try.results23, go_sem]; try rfl, R, d, rfl, r2.own.cap, r2.own.rd, r2.be⟩
  case stop =>
    rintro Dm W' hD ⟨el, x7, x8, hz⟩ hK
    have k7 := x7.cell
    have k8 := x8.cell
    have HX := Lib.hid hz
    have HK2 := Lib.hid hK
    have EL := Lib.hid el
    clear x7 x8 hz hK el
    gi_wp2
    go_wp2
    go_region
    all_goals
      go_wp2
      change LeavesInM Fence.wide n Try.prog Try.f23 _ _ [mark Dm] .returning _
      refine leaves_mark (n₀ := w.heap.size) Dm _ HK2.out (by omega) ?_
      intro W2 hc _ _
      rw [EL.out]
      exact ⟨.tuple #[.slice none 0 0, .bool false], by simp [results, Try.results23, go_sem]; try rfl, none, 0, rfl, Nat.le_refl _, fun h => by simp at h, HX.out.drew.trans hc.low⟩
set_option maxRecDepth 100000 in
theorem ilst_neg {W D J S : Int} {m : List Int} (h : ¬ (0 ≤ ilen W D J S m ∧ ilen W D J S m ≤ J)) : ilst W D J S m = none := by
  unfold ilst
  rw [if_neg]
  exact fun k => h ⟨k.1, k.2.1⟩
set_option maxRecDepth 100000 in
theorem dlist_any (W D J S : Int) (A : Option Addr) (k c : Nat) (m : List Int) (w : World) (h : Rd w A m) (hn : m.length = k) (hs : k ≤ 500) (hu : UM m) : Calls Try.prog 23 #[cf W D J S, .slice A k c] w (RetL w (ilst W D J S m)) := by
  by_cases h0 : ilen W D J S m < 0
  · rw [ilst_neg (by omega)]
    exact list_neg W D J S A k c m _ w h hn hs rfl h0
  · by_cases h1 : J < ilen W D J S m
    · rw [ilst_neg (by omega)]
      exact list_many W D J S A k c m _ w h hn hs rfl h0 h1
    · have hk : okm W D J S m = true := by
        cases e : okm W D J S m
        · unfold ilen at h0; rw [e] at h0; simp at h0
        · rfl
      exact callsIn_wide.1 (list_in 0 W D J S A k c m _ w h hn hs hu hk rfl (by omega) (by omega))
set_option maxRecDepth 100000 in
theorem dlist_L {W D J S : Int} {A : Option Addr} {n c : Nat} {m : List Int} {w : World} (h : Rd w A m) (hn : m.length = n) (hs : n ≤ 500) (hu : UM m) {o : Option (List Int)} {L : List Int} {k : Nat} {B : Bool} (ho : ilst W D J S m = o) (hL : o.getD [] = L) (hk : L.length = k) (hB : o.isSome = B) :
    Calls Try.prog 23 #[cf W D J S, .slice A n c] w fun e w' => ∃ A' c', e = .returned (.tuple #[.slice A' k c', .bool B]) ∧ k ≤ c' ∧ Rd w' A' L ∧ Below w.heap.size w w' := by
  subst ho hL hk hB
  refine (dlist_any W D J S A n c m w h hn hs hu).mono ?_
  rintro _ w' ⟨A', c', rfl, h1, h2, h3⟩
  exact ⟨A', c', rfl, h1, h2, h3⟩
set_option maxRecDepth 100000 in
/-- A list has at most 16 numbers, and each may be. -/
theorem ilst_lim {W D J S : Int} {m : List Int} (hu : UM m) {l : List Int} (h : ilst W D J S m = some l) : okm W D J S m = true ∧ (l.length : Int) ≤ J ∧ l.length ≤ 16 ∧ UM l := by
  unfold ilst at h
  split at h
  · rename_i hc
    have hk : okm W D J S m = true := by
      cases e : okm W D J S m
      · obtain ⟨c1, _, _⟩ := hc; unfold ilen at c1; rw [if_neg (by rw [e]; simp)] at c1; omega
      · rfl
    obtain ⟨hm, _⟩ := okm_iff.1 hk
    obtain ⟨_, _, hJ, _⟩ := may_lim hm
    injection h with h
    subst h
    refine ⟨hk, by simp; omega, by simp; omega, fun u hx => ?_⟩
    simp only [List.mem_map] at hx
    obtain ⟨i, _, rfl⟩ := hx
    exact at0_U hu _
  · cases h
end Go.Proofs.Ytppllanmgdhabaa
