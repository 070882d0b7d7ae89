/- Contract of Rest. -/
import Derived.Test.YtpeaahihjeplmaaDeM
import Derived.Test.YtpeaahihjeplmaaDeV
import Derived.Stop.RegionWithIn
import Derived.Deep.RegionHeld3
import Derived.Deep.CutRange
import Derived.Test.YtpeaahihjeplmaaDeW
namespace Go.Proofs.Ytpeaahihjeplmaa
open Go.RowKit Go.Deep Go.Shelf
attribute [local go_sem] Oper.semAt_some
/-- What is asked at a function's end alone. -/
def retPost (Q : Exit → Act → World → Prop) : Exit → Act → World → Prop
  | .ret, a, w => Q .ret a w
  | _, _, _ => False
theorem wp_retPost {P : Program} {c : Code} {Q : Exit → Act → World → Prop} {a : Act} {w : World} (h : c.wp P (retPost Q) a w) : c.wp P Q a w :=
  wp_mono h fun e a w hq => by
    cases e with
    | ret => exact hq
    | normal => exact hq.elim
    | exit id => exact hq.elim
    | goto t => exact hq.elim
    | panic ch => exact hq.elim
    | outgrown => exact hq.elim
theorem ow_base {w : World} {b b' : Nat} {A : Option Addr} {n c : Nat} {l : List Fr} (h : Ow w b A n c l) (hb : b' ≤ b) : Ow w b' A n c l := by
  refine ⟨h.1, ?_⟩
  rcases h.2 with h2 | ⟨g, cap, cur, hv, hbg, hr⟩
  · exact .inl h2
  · exact .inr ⟨g, cap, cur, hv, Nat.le_trans hb hbg, hr⟩
theorem re_cut {w w4 W : World} {D : Int} {bm ba bc nm na c1 d1 : Nat} {v v' : Value} {A1 B1 : Option Addr} {m : List Int} {a : List Fr} (M4 : Boxed w4 bm 25 v) (N4 : Boxed w4 ba 29 v') (BX4 : Bx w4 bc 1 D 1 0) (Z5 : Below w.heap.size w w4) (hw : w.heap.size ≤ bm) (hw2 : w.heap.size ≤ ba) (hbc : bc < w4.heap.size) (hne : bm ≠ bc ∧ bm ≠ ba ∧ ba ≠ bc) (hm : m.length = nm)
    (Z : Below w4.heap.size w4 W) (hr : Rn w4.heap.size W A1 m) (ho : Ow W w4.heap.size B1 na d1 a) (hd : 0 < m.length → ∀ ad k, A1 = some ad → (Value.slice B1 na d1).ownBlock = some k → ad.block ≠ k) :
    RB w D na bc bm ba w4.heap.size B1 d1 m a ((W.setCell ⟨bm, 0, none⟩ (.slice A1 nm c1)).setCell ⟨ba, 0, none⟩ (.slice B1 na d1)) := by
  subst hm
  have hs : ∀ k, k ≠ bm → k ≠ ba → ((W.setCell ⟨bm, 0, none⟩ (.slice A1 m.length c1)).setCell ⟨ba, 0, none⟩ (.slice B1 na d1)).heap[k]? = W.heap[k]? := fun k h1 h2 =>
    (Below.heap_setCell _ ⟨ba, 0, none⟩ _ k h2).trans (Below.heap_setCell _ ⟨bm, 0, none⟩ _ k h1)
  have e : ((W.setCell ⟨bm, 0, none⟩ (.slice A1 m.length c1)).setCell ⟨ba, 0, none⟩ (.slice B1 na d1)).heap[bc]? = w4.heap[bc]? := (hs bc (by omega) (by omega)).trans (Z.block _ hbc)
  have hz := Z.size
  have l1 := M4.lt
  have l2 := N4.lt
  refine ⟨?_, Boxed.set _ ((Below.heap_setCell _ ⟨bm, 0, none⟩ _ ba (by simp only; omega)).trans ((Z.block _ l2).trans N4)), ho.kept fun k hk => hs k ?_ ?_, ⟨A1, c1, (Below.heap_setCell _ ⟨ba, 0, none⟩ _ bm (by simp only; omega)).trans (Boxed.set _ ((Z.block _ l1).trans M4)), fun hp => ?_⟩, ((Z5.trans (Z.mono Z5.size)).setCell (p := ⟨bm, 0, none⟩) hw _).setCell (p := ⟨ba, 0, none⟩) hw2 _, by simp; omega⟩
  · obtain ⟨e1, e2, e3, e4, e5⟩ := BX4
    exact ⟨by simp; omega, (World.cell?_of_block e).trans e2, (World.cell?_of_block e).trans e3, (World.cell?_of_block e).trans e4, (World.cell?_of_block e).trans e5⟩
  · have := (World.ownsRow.lt ho k hk).1; omega
  · have := (World.ownsRow.lt ho k hk).1; omega
  · obtain ⟨ad, e1, hlo, hlt, hc⟩ := hr hp
    refine ⟨ad, e1, hlo, fun e2 => hd hp ad ad.block e1 e2 rfl, by simpa using hlt, fun j u hu => ?_⟩
    exact (World.cell?_of_block (by rw [block_add]; exact hs _ (by omega) (by omega))).trans (hc j u hu)
theorem re_dis {w4 w5 w7 : World} {A1 B1 : Option Addr} {na d1 : Nat} {m : List Int} {a : List Fr} (hr : Rn w4.heap.size w5 A1 m) (ho : Ow w7 w5.heap.size B1 na d1 a) : 0 < m.length → ∀ ad k, A1 = some ad → (Value.slice B1 na d1).ownBlock = some k → ad.block ≠ k := fun hp ad k e1 e2 => by
  obtain ⟨ad', e3, _, hlt, _⟩ := hr hp
  rw [e1] at e3; cases e3
  have := (World.ownsRow.lt ho k e2).1
  omega
/-- What a rest leaves. -/
def RetRe (w : World) (m : List Int) (a : List Fr) (e : Ending) (w' : World) : Prop :=
  ∃ A c B d, e = .returned (.tuple #[.slice A m.length c, .slice B a.length d]) ∧ Rd w' A m ∧ Pr w'.heap.size w' B a ∧ Below w.heap.size w w'
set_option maxRecDepth 100000 in
set_option maxHeartbeats 8000000 in
theorem rest_in (n : Nat) (D : Int) (A B : Option Addr) (nm cm na ca : Nat) (m : List Int) (a : List Fr) (w : World) (hM : Rd w A m) (hP : Pr w.heap.size w B a) (hnm : m.length = nm) (hna : a.length = na) (hna5 : na ≤ 100) (hnm5 : nm ≤ 500) (hm : may 1 D 1 0 = true) (hsz : ((nm : Int) == sz 1 D 1 0) = true) (hu : UM m) (hf : ∀ i, UF (a.getD i fno)) :
    CallsIn Fence.wide n Try.prog 15 #[.int .i64 D, .slice A nm cm, .slice B na ca] w (RetRe w (restL 1 D 1 0 m a).1 (restL 1 D 1 0 m a).2) := by
  have HMM := Lib.hid hM
  have HP := Lib.hid hP
  have HM := Lib.hid hm
  have HU := Lib.hid hu
  have HF := Lib.hid hf
  have HNM := Lib.hid hnm
  have HNA := Lib.hid hna
  have HS := Lib.hid hsz
  have HSM := Lib.hid hnm5
  clear hM hP hm hu hf hnm hna hsz hnm5
  refine callsIn_of_wp_marks Try.func15 rfl trivial ?_ rfl
  simp only [Try.ntmps15, List.size_toArray, List.length_cons, List.length_nil, Nat.reduceAdd, Nat.reduceSub, Array.replicate_succ, Array.replicate_zero, List.push_toArray, List.append_toArray, List.nil_append, List.cons_append]
  refine wpIn_wide.2 (wp_retPost ?_)
  go_wp2_with fail
  have n1 := Boxed.new w 25 (.slice A nm cm)
  have n2 := Boxed.new (w.alloc (.cells #[.slice A nm cm] 25)) 29 (.slice B na ca)
  rw [World.size_alloc] at n2
  have n1' := n1.alloc (.cells #[.slice B na ca] 29)
  have z0 : Below w.heap.size w ((w.alloc (.cells #[.slice A nm cm] 25)).alloc (.cells #[.slice B na ca] 29)) := ((Below.refl _ _).alloc (Nat.le_refl _) _).alloc (by simp) _
  have hz0 : ((w.alloc (.cells #[.slice A nm cm] 25)).alloc (.cells #[.slice B na ca] 29)).heap.size = w.heap.size + 2 := by simp
  generalize (w.alloc (.cells #[.slice A nm cm] 25)).alloc (.cells #[.slice B na ca] 29) = w0 at n2 n1' z0 hz0 ⊢
  refine (layout_any D _).mono ?_
  rintro _ w1 ⟨rfl, z1⟩
  have hz1 : w.heap.size + 2 ≤ w1.heap.size := by have := z1.size; omega
  have m1 : Boxed w1 _ _ _ := (z1.block _ (by omega)).trans n1'
  have m2 : Boxed w1 _ _ _ := (z1.block _ (by omega)).trans n2
  have bx := Bx.mk w1 1 D 1 0 23
  have m1' := m1.alloc (.cells #[.int .i64 1, .int .i64 D, .int .i64 1, .int .i64 0] 23)
  have m2' := m2.alloc (.cells #[.int .i64 1, .int .i64 D, .int .i64 1, .int .i64 0] 23)
  have zz : Below w.heap.size w (w1.alloc (.cells #[.int .i64 1, .int .i64 D, .int .i64 1, .int .i64 0] 23)) := (z0.trans (z1.mono (by omega))).alloc (by omega) _
  have hz2 : (w1.alloc (.cells #[.int .i64 1, .int .i64 D, .int .i64 1, .int .i64 0] 23)).heap.size = w1.heap.size + 1 := by simp
  go_wp2
  generalize w1.alloc (.cells #[.int .i64 1, .int .i64 D, .int .i64 1, .int .i64 0] 23) = w2 at bx m1' m2' zz hz2 ⊢
  have BX := Lib.hid bx
  have M1 := Lib.hid m1'
  have M2 := Lib.hid m2'
  have Z2 := Lib.hid zz
  have hlc : w1.heap.size < w2.heap.size := by omega
  have hlm : w.heap.size < w2.heap.size := by omega
  have hla : w.heap.size + 1 < w2.heap.size := by omega
  clear n1 n2 n1' z0 hz0 z1 m1 m2 bx m1' m2' zz hz2
  have hmay : may 1 D 1 0 = true := HM.out
  have hss : ((nm : Int) != sz 1 D 1 0) = false := by
    have h := HS.out
    rw [beq_iff_eq] at h
    simp [h]
  have HK := Lib.hid (show ∀ x', Below w2.heap.size w2 x' → (fun w' => w'.cell? ⟨w.heap.size, 0, none⟩ = some (.slice A nm cm) ∧ w'.cell? ⟨w1.heap.size, 0, none⟩ = some (.int .i64 1) ∧ w'.cell? ⟨w1.heap.size, 1, none⟩ = some (.int .i64 D) ∧ w'.cell? ⟨w1.heap.size, 2, none⟩ = some (.int .i64 1) ∧ w'.cell? ⟨w1.heap.size, 3, none⟩ = some (.int .i64 0) ∧ Below w2.heap.size w2 w') x' from fun x' hx => by
    obtain ⟨_, e0, e1, e2, e3⟩ := BX.out.below hx
    exact ⟨(show Boxed x' _ _ _ from (hx.block _ hlm).trans M1.out).cell, e0, e1, e2, e3, hx⟩)
  have hHeld0 := HK.out _ (Below.refl _ _)
  have hn0 : w2.heap.size ≤ w2.heap.size := Nat.le_refl _
  go_region_held3 (fun w' => w'.cell? ⟨w.heap.size, 0, none⟩ = some (.slice A nm cm) ∧ w'.cell? ⟨w1.heap.size, 0, none⟩ = some (.int .i64 1) ∧ w'.cell? ⟨w1.heap.size, 1, none⟩ = some (.int .i64 D) ∧ w'.cell? ⟨w1.heap.size, 2, none⟩ = some (.int .i64 1) ∧ w'.cell? ⟨w1.heap.size, 3, none⟩ = some (.int .i64 0) ∧ Below w2.heap.size w2 w')
    (first | with_reducible exact hd_drew HK.out (fun _ h => h.2.2.2.2.2) (by assumption) | with_reducible exact hd_call HK.out (fun _ h => h.2.2.2.2.2) (by assumption) (by assumption) hn0)
    (first
    | (go_at_call 33; (refine (Tells.of (may_any 1 D 1 0 _) (v' := .bool true) (by rw [hmay])).mono ?_); rintro _ w3 ⟨rfl, z3⟩)
    | (go_at_call 43; (refine (size_any 1 D 1 0 _).mono ?_); rintro _ w4 ⟨rfl, z4⟩))
  have z5 : Below w2.heap.size w2 w4 := ((Below.refl w2.heap.size w2).drew.trans z3).trans (z4.mono z3.size)
  have BX4 := Lib.hid (BX.out.below z5)
  have M4 := Lib.hid (show Boxed w4 w.heap.size 25 (.slice A nm cm) from (z5.block _ hlm).trans M1.out)
  have N4 := Lib.hid (show Boxed w4 (w.heap.size + 1) 29 (.slice B na ca) from (z5.block _ hla).trans M2.out)
  have Z5 := Lib.hid (Z2.out.trans (z5.mono (by omega)))
  have hlc5 : w1.heap.size < w4.heap.size := by have := z5.size; omega
  clear hHeld0 HK z3 z4 z5 hn0 hss hmay M1 M2 BX Z2 hlc hlm hla
  have hlm : w.heap.size < w4.heap.size := by omega
  have hla : w.heap.size + 1 < w4.heap.size := by omega
  go_wp2
  go_cut [] from 22 to 25 (fun wr => ∃ (B1 : Option Addr) (d1 : Nat), Hid (RB w D na w1.heap.size w.heap.size (w.heap.size + 1) w4.heap.size B1 d1 m a wr))
  case first =>
    have zd : Below w.heap.size w w4.drew := Z5.out.drew
    have zdd : Below w4.heap.size w4 w4.drew := (Below.refl _ _).drew
    have hs5 : nm ≤ 500 := HSM.out
    have km := M4.out.cell
    have ka := N4.out.cell
    have fm := M4.out.frozen
    have fa := N4.out.frozen
    go_region_with (first
      | (go_at_call 28; (refine (clone_any A nm cm m w4.drew (HMM.out.below zd) HNM.out hs5).mono ?_); rintro _ w5 ⟨A1, c1, rfl, hr1, za⟩; have HR1 := Lib.hid hr1; have ZA : Below w4.heap.size w4 w5 := zdd.trans za; have km := (show Boxed w5 w.heap.size 25 (.slice A nm cm) from (ZA.block _ hlm).trans M4.out).cell; have ka := (show Boxed w5 (w.heap.size + 1) 29 (.slice B na ca) from (ZA.block _ hla).trans N4.out).cell; have fm := (show Boxed w5 w.heap.size 25 (.slice A nm cm) from (ZA.block _ hlm).trans M4.out).frozen; have fa := (show Boxed w5 (w.heap.size + 1) 29 (.slice B na ca) from (ZA.block _ hla).trans N4.out).frozen; have lm := Nat.lt_of_lt_of_le hlm ZA.size; have la := Nat.lt_of_lt_of_le hla ZA.size; clear hr1 za)
      | (go_at_call 44; (refine (clonef_any B na ca a w5 (HP.out.later (Z5.out.trans (ZA.mono (by omega)))) HNA.out (by omega)).mono ?_); rintro _ w7 ⟨B1, d1, rfl, ho1, zb⟩; have HO1 := Lib.hid ho1; have HR2 := Lib.hid (HR1.out.below zb); have ZB : Below w4.heap.size w4 w7 := ZA.trans (zb.mono ZA.size); have ZAS := Lib.hid ZA.size; have km := (show Boxed w7 w.heap.size 25 (.slice A nm cm) from (ZB.block _ hlm).trans M4.out).cell; have ka := (show Boxed w7 (w.heap.size + 1) 29 (.slice B na ca) from (ZB.block _ hla).trans N4.out).cell; have fm := (show Boxed w7 w.heap.size 25 (.slice A nm cm) from (ZB.block _ hlm).trans M4.out).frozen; have fa := (show Boxed w7 (w.heap.size + 1) 29 (.slice B na ca) from (ZB.block _ hla).trans N4.out).frozen; have lm := Nat.lt_of_lt_of_le hlm ZB.size; have la := Nat.lt_of_lt_of_le hla ZB.size; clear ho1 zb))
    all_goals
      go_wp2
      go_meet
      exact ⟨B1, d1, Lib.hid (re_cut M4.out N4.out BX4.out Z5.out (Nat.le_refl _) (by omega) hlc5 ⟨by omega, by omega, by omega⟩ HNM.out ZB HR2.out (ow_base HO1.out ZAS.out) (re_dis HR1.out HO1.out))⟩
  case rest =>
    obtain ⟨B1, d1, HRB⟩ := hcut
    have V0 := Lib.hid (show RV nm na (m, a) from ⟨HNM.out, HNA.out, HU.out, HF.out⟩)
    have ka := HRB.out.ab.cell
    go_wp2_with (go_at_call 45; refine (callsIn_wide.1 (unrested_in 0 _ _ _ _)).mono ?_; rintro e w' ⟨rfl, rfl⟩)
    have hls := HRB.out.ls
    have HGB := Lib.hid (show ∀ g, B1 = some ⟨g, 0, none⟩ → g < wc.heap.size from fun g e => (World.ownsRow.lt HRB.out.ar g (by rw [e]; rfl)).2)
    have E1 := Lib.hid (Boxed.new wc 29 (.slice B1 na d1))
    have P0 := Lib.hid (HRB.out.cl (Cl.of_below ((Below.refl _ _).alloc (Nat.le_refl _) (.cells #[.slice B1 na d1] 29)) HRB.out.be.size))
    have hz7 : (wc.alloc (.cells #[.slice B1 na d1] 29)).heap.size = wc.heap.size + 1 := by simp
    clear ka HRB
    generalize wc.alloc (.cells #[.slice B1 na d1] 29) = W7 at E1 P0 hz7 ⊢
    have hzw : w.heap.size ≤ W7.heap.size := P0.out.be.size
    have hzr : wc.heap.size < W7.heap.size := by omega
    clear hz7
    refine (wpIn_wide (n := n)).1 ?_
    refine range_pre2 (n₀ := w.heap.size) (p2 := 9) (gf := 74) (lb := #[.pointer (some ⟨wc.heap.size, 0, none⟩)]) (xs := runsL (stR D) Prod.snd 0 na (m, a)) rfl (enters_of Try.func74 (by kernel_rfl) rfl)
      (fun pre W => RB w D na w1.heap.size w.heap.size (w.heap.size + 1) w4.heap.size B1 d1 (pre.foldl (stR D) (m, a)).1 (pre.foldl (stR D) (m, a)).2 W ∧ Boxed W wc.heap.size 29 (.slice B1 na d1) ∧ RV nm na (pre.foldl (stR D) (m, a)))
      hzw ?abide ⟨P0.out, E1.out, V0.out⟩ ?seq ?assign ?body ?done
    case abide =>
      rintro pre W W' ⟨h1, h2, h3⟩ hc
      exact ⟨h1.cl hc, boxed_cl h2 hc, h3⟩
    case seq =>
      intro l' J' W' hJ' hI' hY' h0'
      refine unrested1_in (stR D) Prod.snd (m, a) _ l' wc.heap.size na d1 B1 (by omega) J' W' hJ' (fun pre W h => ?_) hY' h0'
      obtain ⟨h1, h2, h3⟩ := hI' pre W h
      exact ⟨h2, h1.ar.pr, h3.al⟩
    case assign =>
      intro l' m' x W' K hK
      simp only [List.setIfInBounds_toArray, List.set_cons_succ, List.set_cons_zero] at hK ⊢
      gi_wp2
      exact hK
    case body =>
      rintro l' m' pre x rest W' ⟨h1, h2, h3⟩ hx
      simp only [List.setIfInBounds_toArray, List.set_cons_succ, List.set_cons_zero]
      obtain ⟨i, rfl, hi0⟩ := runsL_mem na 0 (m, a) x (by rw [hx]; simp)
      have hi : i < na := by omega
      clear hx hi0
      obtain ⟨s, hs⟩ : ∃ s, pre.foldl (stR D) (m, a) = s := ⟨_, rfl⟩
      rw [hs] at h1 h3
      have HPS := Lib.hid hs
      have HV := Lib.hid h3
      have HB := Lib.hid h2
      obtain ⟨g, rfl⟩ : ∃ g, B1 = some ⟨g, 0, none⟩ := by
        obtain ⟨g, e, _⟩ := h1.ar.at (by omega)
        exact ⟨g, e⟩
      have hgl : w4.heap.size ≤ g ∧ g < W'.heap.size := World.ownsRow.lt h1.ar g rfl
      have hg0 := hgl.1
      have hgc := HGB.out g rfl
      have hgw := hgl.2
      have hl0 := h1.ls
      obtain ⟨Am2, cm2, k1, k2⟩ := h1.mo
      have KM := Lib.hid k1
      have RX := Lib.hid (RB.rd k2)
      have AR := Lib.hid h1.ar
      have km := k1.cell
      have lmw := k1.lt
      have HUF := Lib.hid (HV.out.uf i)
      have hm500 : s.1.length ≤ 500 := by rw [HV.out.ml]; exact HSM.out
      obtain ⟨q0, q1, q2, q3, q4, q5, q6⟩ := h1.ar.c7 hi
      obtain ⟨_, b0, b1, b2, b3⟩ := h1.cb
      have ka := h1.ab.cell
      obtain ⟨m2, g2, hd⟩ : ∃ m2 g2, deqS 1 D 1 0 s.1 (s.2.getD i fno) = (m2, g2) := ⟨_, _, rfl⟩
      have HD := Lib.hid hd
      have hl2 : m2.length = s.1.length := by have := deqS_len 1 D 1 0 s.1 (s.2.getD i fno); rw [hd] at this; exact this
      have hst : stR D s (i : Int) = (m2, s.2.set i g2) := by unfold stR; simp only [Int.toNat_natCast]; rw [hd]
      have FIN := Lib.hid (show ∀ (u2 : World) (A2 : Option Addr) (c2 : Nat), Below W'.heap.size W' u2 → Rn W'.heap.size u2 A2 m2 →
          RB w D na w1.heap.size w.heap.size (w.heap.size + 1) w4.heap.size (some ⟨g, 0, none⟩) d1 ((pre ++ [(i : Int)]).foldl (stR D) (m, a)).1 ((pre ++ [(i : Int)]).foldl (stR D) (m, a)).2 (pk7 (u2.setCell ⟨w.heap.size, 0, none⟩ (.slice A2 s.1.length c2)) g (i * 7) g2)
          ∧ Boxed (pk7 (u2.setCell ⟨w.heap.size, 0, none⟩ (.slice A2 s.1.length c2)) g (i * 7) g2) wc.heap.size 29 (.slice (some ⟨g, 0, none⟩) na d1) ∧ RV nm na ((pre ++ [(i : Int)]).foldl (stR D) (m, a)) from fun u2 A2 c2 hz hr => by
        have hv := HV.out.step (D := D) (i : Int)
        rw [List.foldl_append, List.foldl_cons, List.foldl_nil, HPS.out]
        rw [hst] at hv ⊢
        have h5 := h1.step (c' := c2) hlc5 hlm hla ⟨by omega, by omega⟩ (Nat.le_refl _) hi hz hr g2
        rw [hl2] at h5
        refine ⟨h5, ?_, hv⟩
        exact (pk7_other _ (by omega)).trans ((Below.heap_setCell u2 ⟨w.heap.size, 0, none⟩ _ _ (by simp only; omega)).trans ((hz.block _ HB.out.lt).trans HB.out)))
      have HK := Lib.hid (show ∀ x', Kq w4.heap.size w.heap.size W' x' → (fun w' => w'.cell? ⟨w.heap.size + 1, 0, none⟩ = some (.slice (some ⟨g, 0, none⟩) na d1) ∧ w'.cell? ⟨w1.heap.size, 0, none⟩ = some (.int .i64 1) ∧ w'.cell? ⟨w1.heap.size, 1, none⟩ = some (.int .i64 D) ∧ w'.cell? ⟨w1.heap.size, 2, none⟩ = some (.int .i64 1) ∧ w'.cell? ⟨w1.heap.size, 3, none⟩ = some (.int .i64 0) ∧ Kq w4.heap.size w.heap.size W' w') x' from fun x' hx => by
        have e1 := hx.same w1.heap.size hlc5 (by omega)
        have e2 := hx.same (w.heap.size + 1) hla (by omega)
        exact ⟨(World.cell?_of_block (a := ⟨w.heap.size + 1, 0, none⟩) e2).trans ka, (World.cell?_of_block (a := ⟨w1.heap.size, 0, none⟩) e1).trans b0, (World.cell?_of_block (a := ⟨w1.heap.size, 1, none⟩) e1).trans b1, (World.cell?_of_block (a := ⟨w1.heap.size, 2, none⟩) e1).trans b2, (World.cell?_of_block (a := ⟨w1.heap.size, 3, none⟩) e1).trans b3, hx⟩)
      have hHeld0 := HK.out _ (Kq.refl _ _ _)
      have HBND := Lib.hid (And.intro hlc5 (And.intro hlm hla))
      clear h1 h2 h3 k1 k2 hs hd hst b0 b1 b2 b3 ka hgl hgc
      gi_wp2
      refine wpIn_region_held_round (S := fun w' => w'.cell? ⟨w.heap.size + 1, 0, none⟩ = some (.slice (some ⟨g, 0, none⟩) na d1) ∧ w'.cell? ⟨w1.heap.size, 0, none⟩ = some (.int .i64 1) ∧ w'.cell? ⟨w1.heap.size, 1, none⟩ = some (.int .i64 D) ∧ w'.cell? ⟨w1.heap.size, 2, none⟩ = some (.int .i64 1) ∧ w'.cell? ⟨w1.heap.size, 3, none⟩ = some (.int .i64 0) ∧ Kq w4.heap.size w.heap.size W' w') (by kernel_rfl) (no_defer (by kernel_rfl)) (by rintro ⟨_, _, h⟩; exact h) (kq_drew HK.out (fun _ h => h.2.2.2.2.2) hHeld0) (fun hHeld => ?_)
      refine wpAnyH_take (i := 0) (oi := { dst := some 30, op := Go.Op.load 29 (Go.Operand.tmp 5), type := 29, pos := "deque.go:72", after := #[], guard := none }) (v := ?vrq1) rfl (by kernel_rfl) (by kernel_rfl) (by kernel_rfl) (fun _ _ _ h => h) (Or.inl ⟨by rfl, ?yrq1⟩) (by assumption) ?rrq1
      case yrq1 => (intro w hSw; (try dsimp only at hSw); go_simp; (try with_reducible rfl))
      (try simp only [Act.put, List.setIfInBounds_toArray, List.set_cons_zero, List.set_cons_succ])
      refine wpAnyH_take (i := 1) (oi := { dst := some 31, op := Go.Op.move (Go.Operand.tmp 9), type := 3, pos := "deque.go:72", after := #[{ on := 12, ground := Go.Ground.gcOnly Go.Departure.lateStores }], guard := none }) (v := ?vrq2) rfl (by kernel_rfl) (by kernel_rfl) (by kernel_rfl) (fun _ _ _ h => h) (Or.inl ⟨by rfl, ?yrq2⟩) (by assumption) ?rrq2
      case yrq2 => (intro w hSw; (try dsimp only at hSw); go_simp; (try with_reducible rfl))
      (try simp only [Act.put, List.setIfInBounds_toArray, List.set_cons_zero, List.set_cons_succ])
      refine wpAnyH_take (i := 2) (oi := { dst := some 32, op := Go.Op.load 23 (Go.Operand.tmp 8), type := 23, pos := "deque.go:72", after := #[], guard := none }) (v := ?vrq3) rfl (by kernel_rfl) (by kernel_rfl) (by kernel_rfl) (fun _ _ _ h => h) (Or.inl ⟨by rfl, ?yrq3⟩) (by assumption) ?rrq3
      case yrq3 => (intro w hSw; (try dsimp only at hSw); go_simp; (try with_reducible rfl))
      (try simp only [Act.put, List.setIfInBounds_toArray, List.set_cons_zero, List.set_cons_succ])
      refine wpAnyH_take (i := 4) (oi := { dst := some 34, op := Go.Op.load 29 (Go.Operand.tmp 5), type := 29, pos := "deque.go:72", after := #[], guard := none }) (v := ?vrq4) rfl (by kernel_rfl) (by kernel_rfl) (by kernel_rfl) (fun _ _ _ h => h) (Or.inl ⟨by rfl, ?yrq4⟩) (by assumption) ?rrq4
      case yrq4 => (intro w hSw; (try dsimp only at hSw); go_simp; (try with_reducible rfl))
      (try simp only [Act.put, List.setIfInBounds_toArray, List.set_cons_zero, List.set_cons_succ])
      refine wpAnyH_take (i := 5) (oi := { dst := some 35, op := Go.Op.move (Go.Operand.tmp 9), type := 3, pos := "deque.go:72", after := #[], guard := none }) (v := ?vrq5) rfl (by kernel_rfl) (by kernel_rfl) (by kernel_rfl) (fun _ _ _ h => h) (Or.inl ⟨by rfl, ?yrq5⟩) (by assumption) ?rrq5
      case yrq5 => (intro w hSw; (try dsimp only at hSw); go_simp; (try with_reducible rfl))
      (try simp only [Act.put, List.setIfInBounds_toArray, List.set_cons_zero, List.set_cons_succ])
      refine wpAnyH_take (i := 6) (oi := { dst := some 36, op := Go.Op.indexAddr 29 (Go.Operand.tmp 34) (Go.Operand.tmp 35), type := 0, pos := "deque.go:72", after := #[{ on := 4, ground := Go.Ground.data }, { on := 5, ground := Go.Ground.data }], guard := none }) (v := ?vrq6) rfl (by kernel_rfl) (by kernel_rfl) (by kernel_rfl) (fun _ _ _ h => h) (Or.inl ⟨by rfl, ?yrq6⟩) (by assumption) ?rrq6
      case yrq6 => (intro w hSw; (try dsimp only at hSw); go_simp; (try with_reducible rfl))
      (try simp only [Act.put, List.setIfInBounds_toArray, List.set_cons_zero, List.set_cons_succ])
      refine wpAnyH_ready (rs := [3, 7]) (by kernel_rfl) (by simp) ?_
      refine (AllReadyH.cons (o := { dst := some 33, op := Go.Op.load 25 (Go.Operand.tmp 4), type := 25, pos := "deque.go:72", after := #[], guard := none }) rfl (fun K hK => ?_) (AllReadyH.cons (o := { dst := some 37, op := Go.Op.load 28 (Go.Operand.tmp 36), type := 28, pos := "deque.go:72", after := #[{ on := 6, ground := Go.Ground.data }], guard := none }) rfl (fun K hK => ?_) AllReadyH.nil))
      · go_simp
        refine hK.out _ _ (hHeld) (fun hHeld2 => ?_)
        clear hK K hHeld
        have hHeld := hHeld2
        clear hHeld2
        (try simp only [Act.put, List.setIfInBounds_toArray, List.set_cons_zero, List.set_cons_succ])
        refine wpAnyH_ready (rs := [7]) (by kernel_rfl) (by simp) ?_
        refine (AllReadyH.cons (o := { dst := some 37, op := Go.Op.load 28 (Go.Operand.tmp 36), type := 28, pos := "deque.go:72", after := #[{ on := 6, ground := Go.Ground.data }], guard := none }) rfl (fun K hK => ?_) AllReadyH.nil)
        go_simp
        refine hK.out _ _ (hHeld) (fun hHeld2 => ?_)
        clear hK K hHeld
        have hHeld := hHeld2
        clear hHeld2
        (try simp only [Act.put, List.setIfInBounds_toArray, List.set_cons_zero, List.set_cons_succ])
        refine wpAnyH_ready (rs := [8]) (by kernel_rfl) (by simp) ?_
        refine (AllReadyH.cons (o := { dst := some 38, op := Go.Op.call { callee := Go.Callee.value (Go.Operand.func 11), args := #[Go.Operand.tmp 32, Go.Operand.tmp 33, Go.Operand.tmp 37], argTypes := #[23, 25, 28] }, type := 32, pos := "deque.go:72", after := #[{ on := 2, ground := Go.Ground.data }, { on := 3, ground := Go.Ground.data }, { on := 7, ground := Go.Ground.data }], guard := none }) rfl (fun K hK => ?_) AllReadyH.nil)
        go_simp
        refine (dstep_n (c := cm2) (RX.out.below (Below.refl _ _).drew) rfl hm500 HV.out.um HUF.out HD.out).mono ?_
        rintro e u2 ⟨A2, c2, rfl, hr2, z2⟩
        go_wp2_with fail
        have z2w : Below W'.heap.size W' u2 := (Below.refl _ _).drew.trans z2
        have Z2W := Lib.hid z2w
        have HR2 := Lib.hid hr2
        have km2 := (show Boxed u2 w.heap.size 25 (.slice Am2 s.1.length cm2) from (z2w.block _ KM.out.lt).trans KM.out).cell
        have fm2 := (show Boxed u2 w.heap.size 25 (.slice Am2 s.1.length cm2) from (z2w.block _ KM.out.lt).trans KM.out).frozen
        have lm2 := Nat.lt_of_lt_of_le KM.out.lt z2w.size
        have ar2 := AR.out.below z2w
        obtain ⟨r0, r1, r2, r3, r4, r5, r6⟩ := ar2.c7 hi
        have fr := ar2.free
        have lg2 := Nat.lt_of_lt_of_le hgw z2w.size
        clear ar2 z2w hr2
        refine hK.out _ _ (kq_call HK.out (fun _ h => h.2.2.2.2.2) hl0 z2 hHeld) (fun hHeld2 => ?_)
        clear hK K hHeld
        have hHeld := hHeld2
        clear hHeld2
        (try simp only [Act.put, List.setIfInBounds_toArray, List.set_cons_zero, List.set_cons_succ])
        refine wpAnyH_take (i := 9) (oi := { dst := some 29, op := Go.Op.move (Go.Operand.tmp 38), type := 32, pos := "deque.go:72", after := #[{ on := 8, ground := Go.Ground.data }], guard := none }) (v := ?vrq7) rfl (by kernel_rfl) (by kernel_rfl) (by kernel_rfl) (fun _ _ _ h => h) (Or.inl ⟨by rfl, ?yrq7⟩) (by assumption) ?rrq7
        case yrq7 => (intro w hSw; (try dsimp only at hSw); go_simp; (try with_reducible rfl))
        (try simp only [Act.put, List.setIfInBounds_toArray, List.set_cons_zero, List.set_cons_succ])
        refine wpAnyH_take (i := 10) (oi := { dst := some 39, op := Go.Op.extract (Go.Operand.tmp 29) 0, type := 25, pos := "deque.go:72", after := #[{ on := 9, ground := Go.Ground.data }], guard := none }) (v := ?vrq8) rfl (by kernel_rfl) (by kernel_rfl) (by kernel_rfl) (fun _ _ _ h => h) (Or.inl ⟨by rfl, ?yrq8⟩) (by assumption) ?rrq8
        case yrq8 => (intro w hSw; (try dsimp only at hSw); go_simp; (try with_reducible rfl))
        (try simp only [Act.put, List.setIfInBounds_toArray, List.set_cons_zero, List.set_cons_succ])
        refine wpAnyH_take (i := 11) (oi := { dst := some 40, op := Go.Op.extract (Go.Operand.tmp 29) 1, type := 28, pos := "deque.go:72", after := #[{ on := 9, ground := Go.Ground.data }, { on := 12, ground := Go.Ground.gcOnly Go.Departure.lateStores }], guard := none }) (v := ?vrq9) rfl (by kernel_rfl) (by kernel_rfl) (by kernel_rfl) (fun _ _ _ h => h) (Or.inl ⟨by rfl, ?yrq9⟩) (by assumption) ?rrq9
        case yrq9 => (intro w hSw; (try dsimp only at hSw); go_simp; (try with_reducible rfl))
        (try simp only [Act.put, List.setIfInBounds_toArray, List.set_cons_zero, List.set_cons_succ])
        refine wpAnyH_ready (rs := [12]) (by kernel_rfl) (by simp) ?_
        refine (AllReadyH.cons (o := { dst := none, op := Go.Op.store 25 (Go.Operand.tmp 4) (Go.Operand.tmp 39), type := 0, pos := "deque.go:72", after := #[{ on := 10, ground := Go.Ground.data }, { on := 8, ground := Go.Ground.chain }, { on := 0, ground := Go.Ground.textOnly Go.Departure.inlinedCapture }, { on := 1, ground := Go.Ground.textOnly Go.Departure.lateStores }, { on := 2, ground := Go.Ground.phase }, { on := 3, ground := Go.Ground.phase }, { on := 4, ground := Go.Ground.phase }, { on := 5, ground := Go.Ground.phase }, { on := 6, ground := Go.Ground.phase }, { on := 7, ground := Go.Ground.phase }, { on := 8, ground := Go.Ground.phase }, { on := 9, ground := Go.Ground.phase }, { on := 10, ground := Go.Ground.phase }, { on := 11, ground := Go.Ground.textOnly Go.Departure.lateStores }], guard := none }) rfl (fun K hK => ?_) AllReadyH.nil)
        go_simp
        refine hK.out _ _ (kq_set HK.out (fun _ h => h.2.2.2.2.2) _ hHeld) (fun hHeld2 => ?_)
        clear hK K hHeld
        have hHeld := hHeld2
        clear hHeld2
        (try simp only [Act.put, List.setIfInBounds_toArray, List.set_cons_zero, List.set_cons_succ])
        refine wpAnyH_take (i := 13) (oi := { dst := some 41, op := Go.Op.indexAddr 29 (Go.Operand.tmp 30) (Go.Operand.tmp 31), type := 0, pos := "deque.go:72", after := #[{ on := 0, ground := Go.Ground.data }, { on := 1, ground := Go.Ground.data }, { on := 0, ground := Go.Ground.phase }, { on := 1, ground := Go.Ground.phase }, { on := 2, ground := Go.Ground.phase }, { on := 3, ground := Go.Ground.phase }, { on := 4, ground := Go.Ground.phase }, { on := 5, ground := Go.Ground.phase }, { on := 6, ground := Go.Ground.phase }, { on := 7, ground := Go.Ground.phase }, { on := 8, ground := Go.Ground.phase }, { on := 9, ground := Go.Ground.phase }, { on := 10, ground := Go.Ground.phase }, { on := 11, ground := Go.Ground.phase }, { on := 12, ground := Go.Ground.phase }], guard := none }) (v := ?vrq10) rfl (by kernel_rfl) (by kernel_rfl) (by kernel_rfl) (fun _ _ _ h => h) (Or.inl ⟨by rfl, ?yrq10⟩) (by assumption) ?rrq10
        case yrq10 => (intro w hSw; (try dsimp only at hSw); go_simp; (try with_reducible rfl))
        (try simp only [Act.put, List.setIfInBounds_toArray, List.set_cons_zero, List.set_cons_succ])
        refine wpAnyH_ready (rs := [14]) (by kernel_rfl) (by simp) ?_
        refine (AllReadyH.cons (o := { dst := none, op := Go.Op.store 28 (Go.Operand.tmp 41) (Go.Operand.tmp 40), type := 0, pos := "deque.go:72", after := #[{ on := 13, ground := Go.Ground.data }, { on := 11, ground := Go.Ground.data }, { on := 12, ground := Go.Ground.chain }, { on := 0, ground := Go.Ground.phase }, { on := 1, ground := Go.Ground.phase }, { on := 2, ground := Go.Ground.phase }, { on := 3, ground := Go.Ground.phase }, { on := 4, ground := Go.Ground.phase }, { on := 5, ground := Go.Ground.phase }, { on := 6, ground := Go.Ground.phase }, { on := 7, ground := Go.Ground.phase }, { on := 8, ground := Go.Ground.phase }, { on := 9, ground := Go.Ground.phase }, { on := 10, ground := Go.Ground.phase }, { on := 11, ground := Go.Ground.phase }, { on := 12, ground := Go.Ground.phase }], guard := none }) rfl (fun K hK => ?_) AllReadyH.nil)
        go_simp
        refine hK.out _ _ (kq_pk7 (f := g2) HK.out (fun _ h => h.2.2.2.2.2) hg0 hHeld) (fun hHeld2 => ?_)
        clear hK K hHeld
        have hHeld := hHeld2
        clear hHeld2
        (try simp only [Act.put, List.setIfInBounds_toArray, List.set_cons_zero, List.set_cons_succ])
        refine wpAnyH_done (by kernel_rfl) ?_ _
        gi_wp2
        refine onP_mk (W' := pk7 (u2.setCell ⟨w.heap.size, 0, none⟩ (.slice A2 s.1.length c2)) g (i * 7) g2) ?_ (((keeps_below Z2W.out).trans (KeepsOthers.setCell _ _ _)).trans (keeps_pk7 _ _ _ _))
        exact FIN.out u2 A2 c2 Z2W.out HR2.out
      · go_simp
        refine hK.out _ _ (hHeld) (fun hHeld2 => ?_)
        clear hK K hHeld
        have hHeld := hHeld2
        clear hHeld2
        (try simp only [Act.put, List.setIfInBounds_toArray, List.set_cons_zero, List.set_cons_succ])
        refine wpAnyH_ready (rs := [3]) (by kernel_rfl) (by simp) ?_
        refine (AllReadyH.cons (o := { dst := some 33, op := Go.Op.load 25 (Go.Operand.tmp 4), type := 25, pos := "deque.go:72", after := #[], guard := none }) rfl (fun K hK => ?_) AllReadyH.nil)
        go_simp
        refine hK.out _ _ (hHeld) (fun hHeld2 => ?_)
        clear hK K hHeld
        have hHeld := hHeld2
        clear hHeld2
        (try simp only [Act.put, List.setIfInBounds_toArray, List.set_cons_zero, List.set_cons_succ])
        refine wpAnyH_ready (rs := [8]) (by kernel_rfl) (by simp) ?_
        refine (AllReadyH.cons (o := { dst := some 38, op := Go.Op.call { callee := Go.Callee.value (Go.Operand.func 11), args := #[Go.Operand.tmp 32, Go.Operand.tmp 33, Go.Operand.tmp 37], argTypes := #[23, 25, 28] }, type := 32, pos := "deque.go:72", after := #[{ on := 2, ground := Go.Ground.data }, { on := 3, ground := Go.Ground.data }, { on := 7, ground := Go.Ground.data }], guard := none }) rfl (fun K hK => ?_) AllReadyH.nil)
        go_simp
        refine (dstep_n (c := cm2) (RX.out.below (Below.refl _ _).drew) rfl hm500 HV.out.um HUF.out HD.out).mono ?_
        rintro e u2 ⟨A2, c2, rfl, hr2, z2⟩
        go_wp2_with fail
        have z2w : Below W'.heap.size W' u2 := (Below.refl _ _).drew.trans z2
        have Z2W := Lib.hid z2w
        have HR2 := Lib.hid hr2
        have km2 := (show Boxed u2 w.heap.size 25 (.slice Am2 s.1.length cm2) from (z2w.block _ KM.out.lt).trans KM.out).cell
        have fm2 := (show Boxed u2 w.heap.size 25 (.slice Am2 s.1.length cm2) from (z2w.block _ KM.out.lt).trans KM.out).frozen
        have lm2 := Nat.lt_of_lt_of_le KM.out.lt z2w.size
        have ar2 := AR.out.below z2w
        obtain ⟨r0, r1, r2, r3, r4, r5, r6⟩ := ar2.c7 hi
        have fr := ar2.free
        have lg2 := Nat.lt_of_lt_of_le hgw z2w.size
        clear ar2 z2w hr2
        refine hK.out _ _ (kq_call HK.out (fun _ h => h.2.2.2.2.2) hl0 z2 hHeld) (fun hHeld2 => ?_)
        clear hK K hHeld
        have hHeld := hHeld2
        clear hHeld2
        (try simp only [Act.put, List.setIfInBounds_toArray, List.set_cons_zero, List.set_cons_succ])
        refine wpAnyH_take (i := 9) (oi := { dst := some 29, op := Go.Op.move (Go.Operand.tmp 38), type := 32, pos := "deque.go:72", after := #[{ on := 8, ground := Go.Ground.data }], guard := none }) (v := ?vrq11) rfl (by kernel_rfl) (by kernel_rfl) (by kernel_rfl) (fun _ _ _ h => h) (Or.inl ⟨by rfl, ?yrq11⟩) (by assumption) ?rrq11
        case yrq11 => (intro w hSw; (try dsimp only at hSw); go_simp; (try with_reducible rfl))
        (try simp only [Act.put, List.setIfInBounds_toArray, List.set_cons_zero, List.set_cons_succ])
        refine wpAnyH_take (i := 10) (oi := { dst := some 39, op := Go.Op.extract (Go.Operand.tmp 29) 0, type := 25, pos := "deque.go:72", after := #[{ on := 9, ground := Go.Ground.data }], guard := none }) (v := ?vrq12) rfl (by kernel_rfl) (by kernel_rfl) (by kernel_rfl) (fun _ _ _ h => h) (Or.inl ⟨by rfl, ?yrq12⟩) (by assumption) ?rrq12
        case yrq12 => (intro w hSw; (try dsimp only at hSw); go_simp; (try with_reducible rfl))
        (try simp only [Act.put, List.setIfInBounds_toArray, List.set_cons_zero, List.set_cons_succ])
        refine wpAnyH_take (i := 11) (oi := { dst := some 40, op := Go.Op.extract (Go.Operand.tmp 29) 1, type := 28, pos := "deque.go:72", after := #[{ on := 9, ground := Go.Ground.data }, { on := 12, ground := Go.Ground.gcOnly Go.Departure.lateStores }], guard := none }) (v := ?vrq13) rfl (by kernel_rfl) (by kernel_rfl) (by kernel_rfl) (fun _ _ _ h => h) (Or.inl ⟨by rfl, ?yrq13⟩) (by assumption) ?rrq13
        case yrq13 => (intro w hSw; (try dsimp only at hSw); go_simp; (try with_reducible rfl))
        (try simp only [Act.put, List.setIfInBounds_toArray, List.set_cons_zero, List.set_cons_succ])
        refine wpAnyH_ready (rs := [12]) (by kernel_rfl) (by simp) ?_
        refine (AllReadyH.cons (o := { dst := none, op := Go.Op.store 25 (Go.Operand.tmp 4) (Go.Operand.tmp 39), type := 0, pos := "deque.go:72", after := #[{ on := 10, ground := Go.Ground.data }, { on := 8, ground := Go.Ground.chain }, { on := 0, ground := Go.Ground.textOnly Go.Departure.inlinedCapture }, { on := 1, ground := Go.Ground.textOnly Go.Departure.lateStores }, { on := 2, ground := Go.Ground.phase }, { on := 3, ground := Go.Ground.phase }, { on := 4, ground := Go.Ground.phase }, { on := 5, ground := Go.Ground.phase }, { on := 6, ground := Go.Ground.phase }, { on := 7, ground := Go.Ground.phase }, { on := 8, ground := Go.Ground.phase }, { on := 9, ground := Go.Ground.phase }, { on := 10, ground := Go.Ground.phase }, { on := 11, ground := Go.Ground.textOnly Go.Departure.lateStores }], guard := none }) rfl (fun K hK => ?_) AllReadyH.nil)
        go_simp
        refine hK.out _ _ (kq_set HK.out (fun _ h => h.2.2.2.2.2) _ hHeld) (fun hHeld2 => ?_)
        clear hK K hHeld
        have hHeld := hHeld2
        clear hHeld2
        (try simp only [Act.put, List.setIfInBounds_toArray, List.set_cons_zero, List.set_cons_succ])
        refine wpAnyH_take (i := 13) (oi := { dst := some 41, op := Go.Op.indexAddr 29 (Go.Operand.tmp 30) (Go.Operand.tmp 31), type := 0, pos := "deque.go:72", after := #[{ on := 0, ground := Go.Ground.data }, { on := 1, ground := Go.Ground.data }, { on := 0, ground := Go.Ground.phase }, { on := 1, ground := Go.Ground.phase }, { on := 2, ground := Go.Ground.phase }, { on := 3, ground := Go.Ground.phase }, { on := 4, ground := Go.Ground.phase }, { on := 5, ground := Go.Ground.phase }, { on := 6, ground := Go.Ground.phase }, { on := 7, ground := Go.Ground.phase }, { on := 8, ground := Go.Ground.phase }, { on := 9, ground := Go.Ground.phase }, { on := 10, ground := Go.Ground.phase }, { on := 11, ground := Go.Ground.phase }, { on := 12, ground := Go.Ground.phase }], guard := none }) (v := ?vrq14) rfl (by kernel_rfl) (by kernel_rfl) (by kernel_rfl) (fun _ _ _ h => h) (Or.inl ⟨by rfl, ?yrq14⟩) (by assumption) ?rrq14
        case yrq14 => (intro w hSw; (try dsimp only at hSw); go_simp; (try with_reducible rfl))
        (try simp only [Act.put, List.setIfInBounds_toArray, List.set_cons_zero, List.set_cons_succ])
        refine wpAnyH_ready (rs := [14]) (by kernel_rfl) (by simp) ?_
        refine (AllReadyH.cons (o := { dst := none, op := Go.Op.store 28 (Go.Operand.tmp 41) (Go.Operand.tmp 40), type := 0, pos := "deque.go:72", after := #[{ on := 13, ground := Go.Ground.data }, { on := 11, ground := Go.Ground.data }, { on := 12, ground := Go.Ground.chain }, { on := 0, ground := Go.Ground.phase }, { on := 1, ground := Go.Ground.phase }, { on := 2, ground := Go.Ground.phase }, { on := 3, ground := Go.Ground.phase }, { on := 4, ground := Go.Ground.phase }, { on := 5, ground := Go.Ground.phase }, { on := 6, ground := Go.Ground.phase }, { on := 7, ground := Go.Ground.phase }, { on := 8, ground := Go.Ground.phase }, { on := 9, ground := Go.Ground.phase }, { on := 10, ground := Go.Ground.phase }, { on := 11, ground := Go.Ground.phase }, { on := 12, ground := Go.Ground.phase }], guard := none }) rfl (fun K hK => ?_) AllReadyH.nil)
        go_simp
        refine hK.out _ _ (kq_pk7 (f := g2) HK.out (fun _ h => h.2.2.2.2.2) hg0 hHeld) (fun hHeld2 => ?_)
        clear hK K hHeld
        have hHeld := hHeld2
        clear hHeld2
        (try simp only [Act.put, List.setIfInBounds_toArray, List.set_cons_zero, List.set_cons_succ])
        refine wpAnyH_done (by kernel_rfl) ?_ _
        gi_wp2
        refine onP_mk (W' := pk7 (u2.setCell ⟨w.heap.size, 0, none⟩ (.slice A2 s.1.length c2)) g (i * 7) g2) ?_ (((keeps_below Z2W.out).trans (KeepsOthers.setCell _ _ _)).trans (keeps_pk7 _ _ _ _))
        exact FIN.out u2 A2 c2 Z2W.out HR2.out
    case done =>
      rintro D' W hD ⟨h1, h2, h3⟩ hK
      have e := runsL_fold (D := D) na 0 (m, a) (by simp only; rw [HNA.out]; omega)
      simp only [List.drop_zero, List.take_zero, List.nil_append] at e
      rw [e] at h1 h3
      simp only at h1
      have hml := h3.ml
      have hal := h3.al
      simp only at hml hal
      have ka := h1.ab.cell
      obtain ⟨Am2, cm2, k1, k2⟩ := h1.mo
      have km := k1.cell
      have H1 := Lib.hid h1
      have H2 := Lib.hid (RB.rd k2)
      have HK2 := Lib.hid hK
      have HAL := Lib.hid hal
      clear h1 h2 h3 k1 k2 hK e hml hal E1 P0 V0 HGB
      go_wp2
      go_region
      all_goals
        go_wp2
        change LeavesInM Fence.wide n Try.prog Try.f15 _ _ [mark D'] .returning _
        refine leaves_mark (n₀ := w.heap.size) D' _ HK2.out (by omega) ?_
        intro W2 hc _ _
        have hc2 : Cl w.heap.size W W2 := Cl.trans ⟨(Below.refl _ _).drew, fun _ _ h _ => h⟩ hc
        have P2 := H1.out.cl hc2
        refine ⟨.tuple #[.slice Am2 (restL 1 D 1 0 m a).1.length cm2, .slice B1 na d1], by simp [results, Try.results15, go_sem]; try rfl, Am2, cm2, B1, d1, by rw [HAL.out], ?_, ?_, P2.be⟩
        · exact rd_cl H2.out hc2
        · exact P2.ar.pr
end Go.Proofs.Ytpeaahihjeplmaa
