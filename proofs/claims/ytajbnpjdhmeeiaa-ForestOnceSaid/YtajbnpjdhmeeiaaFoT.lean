/- What is under a task, and the contract of the function that within hands on, which calls itself. -/
import Derived.Test.YtajbnpjdhmeeiaaFoS
namespace Go.Proofs.Ytajbnpjdhmeeiaa
open Go.RowKit Go.Deep Go.Shelf
attribute [local go_sem] Oper.semAt_some

/-- What is under r, with so much fuel. -/
def unf (T : List Tsk) : Nat → Nat → List Int
  | 0, _ => []
  | f + 1, r => (r : Int) :: (kids T r).flatMap fun k => unf T f k.toNat

/-- A mark among the deferred calls. -/
abbrev mark (D : Nat) : Deferred := { target := .collected D, args := #[] }

theorem leaves_marks {F : Fence} {n : Nat} {P : Program} {fn : Func} {tmps : Array Value} {R : Ending → World → Prop} (n₀ : Nat) (Ds : List Nat) : ∀ (W : World), Ds.Nodup → (∀ D ∈ Ds, n₀ ≤ D ∧ W.heap[D]? = some (.deferred (some []))) →
    (∀ W', (∀ k, ¬ k ∈ Ds → W'.heap[k]? = W.heap[k]?) → Below n₀ W W' → ∃ v, (results fn tmps).run P W' = .ok v W' ∧ R (.returned v) W') → LeavesInM F n P fn tmps R (Ds.map mark) .returning W := by
  induction Ds with
  | nil => intro W _ _ h; exact h W (fun _ _ => rfl) (Below.refl _ _)
  | cons D Ds ih =>
    intro W hnd hD h
    obtain ⟨h1, h2⟩ := List.nodup_cons.1 hnd
    obtain ⟨h3, h4⟩ := hD D (by simp)
    have hlt := (Array.getElem?_eq_some_iff.1 h4).1
    refine ⟨by simp, .inl ⟨D, _, rfl, run_takeDeferred h4, ?_⟩⟩
    refine ih _ h2 (fun E hE => ⟨(hD E (by simp [hE])).1, (World.putObj_heap_other (k := E) (r := D) (fun e => h1 (by rw [← e]; exact hE))).trans (hD E (by simp [hE])).2⟩) ?_
    intro W' hk hb
    refine h W' (fun k hk' => ?_) ((below_put W (.deferred none) h3 hlt).trans hb)
    simp only [List.mem_cons, not_or] at hk'
    exact (hk k hk'.2).trans (World.putObj_heap_other hk'.1)

theorem within_in (n : Nat) (A : Option Addr) (k c : Nat) (r : Int) (w : World) :
    CallsIn Fence.wide n Try.prog 26 #[.slice A k c, .int .i64 r] w fun e w' => e = .returned (.func (.func 34) #[] #[.pointer (some ⟨w.heap.size + 1, 0, none⟩), .pointer (some ⟨w.heap.size, 0, none⟩)]) ∧ w' = (w.alloc (.cells #[.slice A k c] 22)).alloc (.cells #[.int .i64 r] 3) := by
  refine callsIn_of_wp Try.func26 rfl trivial ?_ rfl
  simp only [Try.ntmps26, List.size_toArray, List.length_cons, List.length_nil, Nat.reduceAdd, Nat.reduceSub, Array.replicate_succ, Array.replicate_zero, List.push_toArray, List.append_toArray, List.nil_append, List.cons_append]
  gi_wp2
  go_ret
  exact ⟨rfl, rfl⟩

/-- What holds of the blocks of a call of the function that within hands on: b (yield), bR (the task), bT (the tasks), and the marks Ds. -/
structure Mine (l b bR bT : Nat) (r : Int) (A : Option Addr) (k c : Nat) (Ds : List Nat) (S : Nat → Prop) (W : World) : Prop where
  cb : Boxed W b 48 (.func (.yield l) #[] #[])
  cr : Boxed W bR 3 (.int .i64 r)
  ct : Boxed W bT 22 (.slice A k c)
  nb : ¬ S b
  nr : ¬ S bR
  nt : ¬ S bT
  ds : ∀ D ∈ Ds, W.heap[D]? = some (.deferred (some [])) ∧ ¬ S D
theorem Mine.mv {l b bR bT : Nat} {r : Int} {A : Option Addr} {k c n₀ : Nat} {Ds : List Nat} {S S' : Nat → Prop} {W W' : World} (h : Mine l b bR bT r A k c Ds S W) (hm : Mv n₀ S W S' W') : Mine l b bR bT r A k c Ds S' W' := by
  have ns : ∀ i, i < W.heap.size → ¬ S i → ¬ S' i := fun i hi hS hS' => by
    rcases hm.sub i hS' with h | h
    · exact hS h
    · omega
  have ld : ∀ D ∈ Ds, D < W.heap.size := fun D hD => (Array.getElem?_eq_some_iff.1 (h.ds D hD).1).1
  exact ⟨(hm.fr b h.cb.lt h.nb).trans h.cb, (hm.fr bR h.cr.lt h.nr).trans h.cr, (hm.fr bT h.ct.lt h.nt).trans h.ct, ns _ h.cb.lt h.nb, ns _ h.cr.lt h.nr, ns _ h.ct.lt h.nt,
    fun D hD => ⟨(hm.fr D (ld D hD) (h.ds D hD).2).trans (h.ds D hD).1, ns D (ld D hD) (h.ds D hD).2⟩⟩

/-- The blocks of the call, and those of whom it yields to. -/
def Own3 (b bR bT : Nat) (Ds : List Nat) (S : Nat → Prop) (k : Nat) : Prop := S k ∨ k = b ∨ k = bR ∨ k = bT ∨ k ∈ Ds
/-- What the body of the inner loop says between two rounds. -/
def Inn (l b bR bT : Nat) (r : Int) (A : Option Addr) (k c : Nat) (Ds : List Nat) (J : List Int → (Nat → Prop) → World → Prop) (done pre : List Int) (S₁ : Nat → Prop) (W : World) : Prop :=
  ∃ Sc, J (done ++ pre) Sc W ∧ Mine l b bR bT r A k c Ds Sc W ∧ S₁ = Own3 b bR bT Ds Sc
theorem inn_good {l b bR bT : Nat} {r : Int} {A : Option Addr} {k c n₀ : Nat} {Ds : List Nat} {J : List Int → (Nat → Prop) → World → Prop} (hG : Good n₀ J) (done : List Int) : Good n₀ (Inn l b bR bT r A k c Ds J done) := by
  refine ⟨?_, ?_⟩
  · rintro pre S W ⟨Sc, hJ, hm, rfl⟩ i hi
    rcases hi with h | h | h | h | h
    · exact hG.lt hJ i h
    · rw [h]; exact hm.cb.lt
    · rw [h]; exact hm.cr.lt
    · rw [h]; exact hm.ct.lt
    · exact (Array.getElem?_eq_some_iff.1 (hm.ds i h).1).1
  · rintro pre S W W' ⟨Sc, hJ, hm, rfl⟩ he hb
    exact ⟨Sc, hG.stab hJ (fun i hi => he i (.inl hi)) hb, ⟨(he b (.inr (.inl rfl))).trans hm.cb, (he bR (.inr (.inr (.inl rfl)))).trans hm.cr, (he bT (.inr (.inr (.inr (.inl rfl))))).trans hm.ct, hm.nb, hm.nr, hm.nt,
      fun D hD => ⟨(he D (.inr (.inr (.inr (.inr hD))))).trans (hm.ds D hD).1, (hm.ds D hD).2⟩⟩, rfl⟩
/-- A round of the inner loop, told of the outer one's blocks. -/
theorem mv_own {b bR bT n₀ : Nat} {Ds : List Nat} {S S' : Nat → Prop} {W W' : World} (h : Mv n₀ S W S' W') : Mv n₀ (Own3 b bR bT Ds S) W (Own3 b bR bT Ds S') W' := by
  refine ⟨h.below, fun k hk hS => h.fr k hk (fun h => hS (.inl h)), fun k hk => ?_⟩
  rcases hk with h' | h'
  · rcases h.sub k h' with h1 | h1
    · exact .inl (.inl h1)
    · exact .inr h1
  · exact .inl (.inr h')
/-- The whole of a loop over one kid, told of the call's beginning. -/
theorem mv_kid {l b bR bT n₀ : Nat} {r : Int} {A : Option Addr} {k c : Nat} {Ds : List Nat} {S Sc Sd : Nat → Prop} {W Wc Wd : World} (hb : b = W.heap.size) (hR : Boxed W bR 3 (.int .i64 r)) (hT : Boxed W bT 22 (.slice A k c)) (hD : ∀ D ∈ Ds, W.heap.size ≤ D)
    (h1 : Mv n₀ S W Sc Wc) (h2 : Mv n₀ (Own3 b bR bT Ds Sc) Wc (Own3 b bR bT Ds Sd) Wd) (hm : Mine l b bR bT r A k c Ds Sd Wd) : Mv n₀ S W Sd Wd := by
  have hz := h1.below.size
  refine ⟨h1.below.trans h2.below, fun i hi hS => ?_, fun i hi => ?_⟩
  · by_cases e1 : i = bR
    · subst e1; exact hm.cr.trans hR.symm
    · by_cases e2 : i = bT
      · subst e2; exact hm.ct.trans hT.symm
      · refine (h2.fr i (by omega) ?_).trans (h1.fr i hi hS)
        rintro (h | h | h | h | h)
        · rcases h1.sub i h with h | h
          · exact hS h
          · omega
        · omega
        · exact e1 h
        · exact e2 h
        · have := hD i h; omega
  · rcases h2.sub i (.inl hi) with (h | h | h | h | h) | h
    · exact h1.sub i h
    · exact .inr (by omega)
    · exact absurd (h ▸ hi) hm.nr
    · exact absurd (h ▸ hi) hm.nt
    · exact .inr (hD i h)
    · exact .inr (by omega)
theorem kid_ok {T : List Tsk} (h : okP T.length (sp T)) {r j : Nat} (hr : r < T.length) (hj : j < T[r].2.length) : (r : Int) < T[r].2[j] ∧ T[r].2[j] < (T.length : Int) := by
  have hp := sp_pre' T (j := j + 1) hr
  rw [map_take_succ hj, ← List.append_assoc] at hp
  exact (okP_snoc.1 (okP_pre hp h)).2.imp id And.left
theorem flat_succ {l : List Int} {g : Int → List Int} {j : Nat} (h : j < l.length) : (l.take (j + 1)).flatMap g = (l.take j).flatMap g ++ g l[j] := by
  rw [List.take_succ_eq_append_getElem h, List.flatMap_append, List.flatMap_cons, List.flatMap_nil, List.append_nil]
theorem flat_le {l : List Int} {g : Int → List Int} {j : Nat} (h : j < l.length) : ((l.take j).flatMap g).length + (g l[j]).length ≤ (l.flatMap g).length := by
  have h1 := congrArg List.length (flat_succ (g := g) h)
  have h2 := congrArg List.length (congrArg (List.flatMap g) (List.take_append_drop (j + 1) l))
  rw [List.flatMap_append] at h2
  simp only [List.length_append] at h1 h2
  omega

set_option maxRecDepth 100000 in
set_option maxHeartbeats 4000000 in
theorem within1_in (n₀ : Nat) (A : Option Addr) (c : Nat) (T : List Tsk) (hs : Sm T) (hok : okP T.length (sp T)) (f : Nat) : ∀ (r : Nat), r < T.length → T.length ≤ r + f →
    ∀ (n l N bR bT : Nat) (J : List Int → (Nat → Prop) → World → Prop) (S : Nat → Prop) (W : World), Good n₀ J → Yields n₀ N l J → (unf T f r).length ≤ N → J [] S W → Boxed W bR 3 (.int .i64 r) → Boxed W bT 22 (.slice A T.length c) → ¬ S bR → ¬ S bT → Tk n₀ W A T → n₀ ≤ W.heap.size →
    CallsIn Fence.wide n Try.prog 34 #[.func (.yield l) #[] #[], .pointer (some ⟨bR, 0, none⟩), .pointer (some ⟨bT, 0, none⟩)] W fun e W' => (∃ v, e = .returned v) ∧ ∃ S', J (unf T f r) S' W' ∧ Mv n₀ S W S' W' := by
  induction f with
  | zero => intro r h1 h2; omega
  | succ f ih =>
    intro r hr hf n l N bR bT J S W hG hY hN hJ hbR hbT nR nT hT hn₀
    have hlt := hG.lt hJ
    have hJ1 := hG.stab (W' := W.alloc (.cells #[.func (.yield l) #[] #[]] 48)) hJ (fun k hk => Below.heap_alloc W _ k (hlt k hk)) ((Below.refl _ _).alloc hn₀ _)
    obtain ⟨fn, tmps, assign, body, hy, hR⟩ := hY (n - 1) [] r S _ hJ1 (by simp [unf] at hN ⊢; omega)
    have m1 : Mine l W.heap.size bR bT r A T.length c [] S (W.alloc (.cells #[.func (.yield l) #[] #[]] 48)) :=
      ⟨Boxed.new W _ _, hbR.alloc _, hbT.alloc _, fun h => by have := hlt _ h; omega, nR, nT, by simp⟩
    have mv1 : Mv n₀ S W S (W.alloc (.cells #[.func (.yield l) #[] #[]] 48)) := Mv.alloc hn₀ _
    have k1 := m1.cr.cell
    have M1 := Lib.hid m1
    have V1 := Lib.hid mv1
    have HG := Lib.hid hG
    have HY := Lib.hid hY
    have HS := Lib.hid hs
    have HT := Lib.hid hT
    have BR := Lib.hid hbR
    have BT := Lib.hid hbT
    have IH := Lib.hid ih
    have LT := Lib.hid hlt
    have HO := Lib.hid hok
    clear m1 mv1 hG hY hJ hJ1 hs hT hbT hbR ih hlt hok
    refine callsIn_of_wp_marks Try.func34 rfl trivial ?_ rfl
    simp only [Try.ntmps34, List.size_toArray, List.length_cons, List.length_nil, Nat.reduceAdd, Nat.reduceSub, Array.replicate_succ, Array.replicate_zero, List.push_toArray, List.append_toArray, List.nil_append, List.cons_append]
    gi_wp2
    refine ⟨(fun h => by cases h), ?_⟩
    refine hR.mono ?_
    rintro e W2 ⟨rfl, S2, hJ2, hm2⟩
    have m2 := M1.out.mv hm2
    have V2 := Lib.hid (V1.out.trans hm2)
    have M2 := Lib.hid m2
    have J2 := Lib.hid hJ2
    have k2 := m2.cr.cell
    have k3 := m2.ct.cell
    obtain ⟨b, off, K, c', rfl, hal, c0, c1, hk⟩ := (HT.out.below V2.out.below).at hr
    have HK := Lib.hid hk
    have hkl := HS.out.at hr
    clear hJ2 hm2 m2 hy hR M1 V1 k1 hk
    gi_wp2
    refine wpIn_loop (fun a Wc => ∃ (j : Nat) (u5 u18 u19 u20 u21 u22 u23 u29 : Value) (Ds : List Nat) (Sc : Nat → Prop),
        a = { tmps := #[.func (.yield l) #[] #[], .pointer (some ⟨bR, 0, none⟩), .pointer (some ⟨bT, 0, none⟩), .pointer (some ⟨W.heap.size, 0, none⟩), undef, u5, undef, .func (.yield l) #[] #[], .int .i64 r, .bool true, .bool false, .slice (some ⟨b, off, none⟩) T.length c, .int .i64 r,
          .pointer (some ⟨b, off + r * 2, none⟩), .pointer (some ⟨b, off + r * 2 + 1, none⟩), .slice K T[r].2.length c', .int .i64 T[r].2.length, .int .i64 j, u18, u19, u20, u21, u22, u23, undef, undef, undef, undef, undef, u29], defers := Ds.map mark } ∧
        j ≤ T[r].2.length ∧ J ((r : Int) :: (T[r].2.take j).flatMap fun k => unf T f k.toNat) Sc Wc ∧ Mv n₀ S W Sc Wc ∧ Mine l W.heap.size bR bT r (some ⟨b, off, none⟩) T.length c Ds Sc Wc ∧ Ds.Nodup ∧ (∀ D ∈ Ds, W.heap.size ≤ D) ∧ RdB n₀ Wc K T[r].2)
      (fun a _ => T[r].2.length - (intOf (a.tmps.getD 17 undef)).toNat) ?start ?round
    case start => exact ⟨0, undef, undef, undef, undef, undef, undef, undef, undef, [], S2, rfl, Nat.zero_le _, by simpa using J2.out, V2.out, M2.out, List.nodup_nil, by simp, HK.out⟩
    case round =>
      rintro _ Wc ⟨j, u5, u18, u19, u20, u21, u22, u23, u29, Ds, Sc, rfl, hj, hJc, hVc, hMc, hnd, hDs, hk⟩
      have k4 := hMc.ct.cell
      have HKC := Lib.hid hk
      have JC := Lib.hid hJc
      have VC := Lib.hid hVc
      have MC := Lib.hid hMc
      have ND := Lib.hid hnd
      have DS := Lib.hid hDs
      clear hJc hVc hMc hnd hDs k2 k3 c0 c1 M2 V2 J2 hk HK
      by_cases hlj : j < T[r].2.length
      · obtain ⟨hd1, hd2⟩ := kid_ok HO.out hr hlj
        obtain ⟨q, hq⟩ : ∃ q : Nat, T[r].2[j] = (q : Int) := ⟨T[r].2[j].toNat, by omega⟩
        obtain ⟨kb, ko, rfl, hkl', kc⟩ := HKC.out.at hlj
        have hlen := flat_le (g := fun k => unf T f k.toNat) hlj
        rw [hq] at kc hd1 hd2 hlen
        have hqq : (q : Int).toNat = q := by omega
        rw [hqq] at hlen
        have HQ := Lib.hid hq
        have HL := Lib.hid hlen
        clear hq hlen hqq
        gi_wp2_with (refine ⟨trivial, (fun h => by cases h), ?_⟩; gi_at_call 26; refine (within_in _ _ _ _ _ _).mono ?_; rintro e w' ⟨rfl, rfl⟩)
        have hzc := VC.out.below.size
        have mva : Mv n₀ Sc Wc Sc ((Wc.alloc (.cells #[.slice (some ⟨b, off, none⟩) T.length c] 22)).alloc (.cells #[.int .i64 q] 3)) := (Mv.alloc (by omega) _).trans (Mv.alloc (by simp; omega) _)
        have bt := (Boxed.new Wc 22 (.slice (some ⟨b, off, none⟩) T.length c)).alloc (.cells #[.int .i64 (q : Int)] 3)
        have br := Boxed.new (Wc.alloc (.cells #[.slice (some ⟨b, off, none⟩) T.length c] 22)) 3 (.int .i64 q)
        rw [World.size_alloc] at br
        have hlt := HG.out.lt JC.out
        have hall := ((Below.refl Wc.heap.size Wc).alloc (Nat.le_refl _) (.cells #[.slice (some ⟨b, off, none⟩) T.length c] 22)).alloc (by simp) (.cells #[.int .i64 (q : Int)] 3)
        have J3 := HG.out.stab JC.out (fun k hk => hall.block k (hlt k hk)) mva.below
        have M3 := MC.out.mv mva
        have V3 := VC.out.trans mva
        have hz3 : ((Wc.alloc (.cells #[.slice (some ⟨b, off, none⟩) T.length c] 22)).alloc (.cells #[.int .i64 (q : Int)] 3)).heap.size = Wc.heap.size + 2 := by simp
        have hK3 := HKC.out.below mva.below
        have hlo : ∀ k, Own3 W.heap.size bR bT Ds Sc k → k < Wc.heap.size := by
          rintro k (h | h | h | h | h)
          · exact hlt k h
          · rw [h]; exact MC.out.cb.lt
          · rw [h]; exact MC.out.cr.lt
          · rw [h]; exact MC.out.ct.lt
          · exact (Array.getElem?_eq_some_iff.1 (MC.out.ds k h).1).1
        clear hall mva k4 kc
        generalize (Wc.alloc (.cells #[.slice (some ⟨b, off, none⟩) T.length c] 22)).alloc (.cells #[.int .i64 (q : Int)] 3) = W3 at *
        refine range_within (n₀ := n₀) (N := (unf T f q).length) (gf := 34) (lb := #[.pointer (some ⟨Wc.heap.size + 1, 0, none⟩), .pointer (some ⟨Wc.heap.size, 0, none⟩)]) (xs := unf T f q) (S0 := Own3 W.heap.size bR bT Ds Sc) rfl (enters_of Try.func34 (by kernel_rfl) rfl) (by omega)
          ?seq (Inn l W.heap.size bR bT r (some ⟨b, off, none⟩) T.length c Ds J ((r : Int) :: (T[r].2.take j).flatMap fun k => unf T f k.toNat)) (inn_good HG.out _) ⟨Sc, by simpa using J3, M3, rfl⟩
          (fun x => { tmps := #[.func (.yield l) #[] #[], .pointer (some ⟨bR, 0, none⟩), .pointer (some ⟨bT, 0, none⟩), .pointer (some ⟨W.heap.size, 0, none⟩), undef, .int .i64 q, .int .i64 x, .func (.yield l) #[] #[], .int .i64 r, .bool true, .bool false, .slice (some ⟨b, off, none⟩) T.length c, .int .i64 r,
            .pointer (some ⟨b, off + r * 2, none⟩), .pointer (some ⟨b, off + r * 2 + 1, none⟩), .slice (some ⟨kb, ko, none⟩) T[r].2.length c', .int .i64 T[r].2.length, .int .i64 j, .bool true, .pointer (some ⟨kb, ko + j, none⟩), .int .i64 q, .slice (some ⟨b, off, none⟩) T.length c, .int .i64 q,
            .func (.func 34) #[] #[.pointer (some ⟨Wc.heap.size + 1, 0, none⟩), .pointer (some ⟨Wc.heap.size, 0, none⟩)], .int .i64 x, undef, undef, undef, undef, u29], defers := [] }) ?assign ?body ?done
        case seq =>
          intro l' J' W' S' hG' hY' hJ' hB' hS'
          refine IH.out q (by omega) (by omega) _ l' _ _ _ J' S' W' hG' hY' (Nat.le_refl _) hJ' ((hB'.block _ br.lt).trans br) ((hB'.block _ bt.lt).trans bt) (fun h => ?_) (fun h => ?_) (HT.out.below (V3.below.trans (hB'.mono (by omega)))) (by have := hB'.size; omega)
          · have := hlo _ (hS' _ (by omega) h); omega
          · have := hlo _ (hS' _ (by omega) h); omega
        case assign =>
          intro l' m x W' K hK
          gi_wp2
          exact hK
        case body =>
          rintro l' m pre x S₁ W' ⟨Sd, hJd, hMd, rfl⟩ hlen
          obtain ⟨fn', tmps', assign', body', hy', hR'⟩ := HY.out (m - 1) _ x Sd W' hJd (by
            have := HL.out
            have hN' := hN
            rw [unf, kids_eq hr] at hN'
            simp only [List.length_cons, List.length_append] at hN' this ⊢
            omega)
          have kb' := hMd.cb.cell
          have MD := Lib.hid hMd
          clear hJd hMd
          gi_wp2
          refine ⟨(fun h => by cases h), ?_⟩
          refine RoundIn.mono (show RoundIn (Fence.wide.inRound l') _ _ _ _ _ _ _ _ _ from hR') ?_
          rintro e W4 ⟨rfl, S4, hJ4, hm4⟩
          have J4 := Lib.hid hJ4
          have MV4 := Lib.hid hm4
          clear hJ4 hm4
          gi_wp2
          exact ⟨_, ⟨S4, by rw [← List.append_assoc]; exact J4.out, MD.out.mv MV4.out, rfl⟩, mv_own MV4.out⟩
        case done =>
          rintro D S₁ W' hD hnD ⟨Sd, hJd, hMd, rfl⟩ hmv hK
          have hzd := hmv.below.size
          have JD := Lib.hid hJd
          have MD := Lib.hid hMd
          have V4 := Lib.hid (mv_kid (W := W) (S := S) rfl BR.out BT.out DS.out V3 hmv hMd)
          have HK4 := Lib.hid (hK3.below hmv.below)
          have HKD := Lib.hid hK
          clear hJd hMd hK hmv
          gi_wp2
          refine ⟨⟨j + 1, .int .i64 q, .bool true, .pointer (some ⟨kb, ko + j, none⟩), .int .i64 q, .slice (some ⟨b, off, none⟩) T.length c, .int .i64 q, .func (.func 34) #[] #[.pointer (some ⟨Wc.heap.size + 1, 0, none⟩), .pointer (some ⟨Wc.heap.size, 0, none⟩)], .int .i64 (j + 1),
            D :: Ds, Sd, rfl, by omega, ?_, V4.out, ⟨MD.out.cb, MD.out.cr, MD.out.ct, MD.out.nb, MD.out.nr, MD.out.nt, ?_⟩, List.nodup_cons.2 ⟨?_, ND.out⟩, ?_, HK4.out⟩, ?_⟩
          · rw [flat_succ hlj, HQ.out, show (q : Int).toNat = q by omega, ← List.cons_append]
            exact JD.out
          · intro E hE
            rcases List.mem_cons.1 hE with rfl | hE
            · exact ⟨HKD.out, fun h => hnD (.inl h)⟩
            · exact MD.out.ds E hE
          · intro hE
            have := hlo D (.inr (.inr (.inr (.inr hE))))
            omega
          · intro E hE
            rcases List.mem_cons.1 hE with rfl | hE
            · omega
            · exact DS.out E hE
          · show T[r].2.length - ((j : Int) + 1).toNat < T[r].2.length - (j : Int).toNat
            omega
      · gi_wp2
        obtain rfl : j = T[r].2.length := by omega
        have hJf := JC.out
        rw [List.take_length] at hJf
        refine leaves_marks n₀ Ds Wc ND.out (fun D hD => ⟨Nat.le_trans hn₀ (DS.out D hD), (MC.out.ds D hD).1⟩) ?_
        intro W' hk hb
        refine ⟨_, results_none rfl _ _ _, ⟨_, rfl⟩, Sc, ?_, ?_⟩
        · rw [unf, kids_eq hr]
          exact HG.out.stab hJf (fun k hk' => hk k (fun hD => (MC.out.ds k hD).2 hk')) hb
        · refine ⟨VC.out.below.trans hb, fun k hk1 hk2 => ?_, VC.out.sub⟩
          exact (hk k (fun hD => by have := DS.out k hD; omega)).trans (VC.out.fr k hk1 hk2)
end Go.Proofs.Ytajbnpjdhmeeiaa
