/- Contracts of the laws' own calls, many and awake. -/
import Derived.Test.YtpeaahihjeplmaaDeX
namespace Go.Proofs.Ytpeaahihjeplmaa
open Go.RowKit Go.Deep Go.Shelf
/-- The slice at A reads as the truth values l. -/
def Rb (w : World) (A : Option Addr) (l : List Bool) : Prop :=
  0 < l.length → ∃ ad, A = some ad ∧ ad.block < w.heap.size ∧ ∀ j u, l[j]? = some u → w.cell? (ad.add j) = some (.bool u)
theorem Rb.below {w w' : World} {A : Option Addr} {l : List Bool} (h : Rb w A l) (hb : Below w.heap.size w w') : Rb w' A l := fun hp => by
  obtain ⟨ad, e, hlt, hc⟩ := h hp
  exact ⟨ad, e, Nat.lt_of_lt_of_le hlt hb.size, fun j u hu => (hb.cell (p := ad.add j) (by rw [block_add]; exact hlt)).trans (hc j u hu)⟩
theorem cs_take {pops : List Bool} {j : Nat} (h : j < pops.length) : (cs pops).take (j + 1) = (cs pops).take j ++ [if pops[j] = true then ⟨1, 0, 0, 0, 0, 0, 0⟩ else ⟨0, 0, 0, (j : Int) + 1, 0, 0, 0⟩] := by
  rw [List.take_succ_eq_append_getElem (by rw [cs_len]; exact h)]
  congr 2
  simp [cs]
set_option maxRecDepth 100000 in
set_option maxHeartbeats 1000000 in
theorem lcalls_any (A : Option Addr) (n c : Nat) (pops : List Bool) (w : World) (h : Rb w A pops) (hn : pops.length = n) (hs : n ≤ 60) :
    Calls Try.prog 19 #[.slice A n c] w fun e w' => ∃ Q d, e = .returned (.slice Q n d) ∧ Ow w' w.heap.size Q n d (cs pops) ∧ Below w.heap.size w w' := by
  have H := Lib.hid h
  have HN := Lib.hid hn
  clear h hn
  go_enter Try.func19, Try.ntmps19
  go_wp2
  go_loopw [3, 4] (fun q x wr => ∃ (j : Nat) (Q : Option Addr) (d : Nat), q = .slice Q j d ∧ x = .int .i64 j ∧ j ≤ n ∧ Hid (Ow wr w.heap.size Q j d ((cs pops).take j)) ∧ Hid (Below w.heap.size w wr)) (fun _ x _ => n - (intOf x).toNat)
  case atStart => exact ⟨0, none, 0, rfl, rfl, Nat.zero_le _, Lib.hid (Ow.nil _ _), Lib.hid (Below.refl _ _)⟩
  case round =>
    obtain ⟨j, Q, d, rfl, rfl, hj, HO, HZ⟩ := hrel
    by_cases hlt : j < n
    · have hL : j < pops.length := by rw [HN.out]; exact hlt
      obtain ⟨ad, rfl, hal, hac⟩ := H.out.below HZ.out (by omega)
      have hx := hac j _ (List.getElem?_eq_getElem hL)
      have hct := cs_take hL
      clear hac
      cases hb : pops[j]
      · rw [hb] at hx hct
        rw [if_neg (by simp)] at hct
        obtain ⟨Q', d', w', hrun, hown, _, hbel, _⟩ := app_one HO.out ⟨0, 0, 0, (j : Int) + 1, 0, 0, 0⟩ (by omega) HZ.out.size
        rw [← hct] at hown
        have RUN := Lib.hid hrun
        have HO' := Lib.hid hown
        have HZ' := Lib.hid (HZ.out.trans hbel)
        have hw : IntKind.u64.wrap ((j : Int) + 1) = (j : Int) + 1 := by rw [IntKind.wrap_u64]; omega
        clear hrun hown hbel hct HO HZ hb
        go_wp2_with (at_builtin; (with_reducible refine wpList_append_fr RUN.out ?_ ?_ ?_ ?_); exact ⟨_, _, rfl, rfl, rfl⟩; rfl; rfl)
        go_roundw
        case rel => exact ⟨j + 1, Q', d', rfl, by go_num, by omega, HO', HZ'⟩
        case measure => simp [intOf]; omega
      · rw [hb] at hx hct
        rw [if_pos rfl] at hct
        obtain ⟨Q', d', w', hrun, hown, _, hbel, _⟩ := app_one HO.out ⟨1, 0, 0, 0, 0, 0, 0⟩ (by omega) HZ.out.size
        rw [← hct] at hown
        have RUN := Lib.hid hrun
        have HO' := Lib.hid hown
        have HZ' := Lib.hid (HZ.out.trans hbel)
        clear hrun hown hbel hct HO HZ hb
        go_wp2_with (at_builtin; (with_reducible refine wpList_append_fr RUN.out ?_ ?_ ?_ ?_); exact ⟨_, _, rfl, rfl, rfl⟩; rfl; rfl)
        go_roundw
        case rel => exact ⟨j + 1, Q', d', rfl, by go_num, by omega, HO', HZ'⟩
        case measure => simp [intOf]; omega
    · have hje : j = n := by omega
      have e : (cs pops).take j = cs pops := by rw [hje, ← HN.out, ← cs_len, List.take_length]
      rw [e] at HO
      subst hje
      clear e
      go_wp2
      go_ret
      exact ⟨Q, d, rfl, HO.out, HZ.out⟩
/-- How often a value was taken. -/
def mny (l : List Fr) (v : Int) : Nat := (ob isTK l).count v
theorem mny_take {l : List Fr} {j : Nat} (h : j < l.length) (v : Int) : mny (l.take (j + 1)) v = mny (l.take j) v + (if l[j].res = 1 ∧ ¬ l[j].op = 0 ∧ l[j].val = v then 1 else 0) := by
  unfold mny
  rw [List.take_succ_eq_append_getElem h, ob_snoc, List.count_append]
  congr 1
  unfold isTK
  by_cases h1 : l[j].res = 1
  · by_cases h2 : l[j].op = 0
    · simp [h1, h2]
    · by_cases h3 : l[j].val = v
      · simp [h1, h2, h3]
      · simp [h1, h2, h3]
  · simp [h1]
theorem mny_le (l : List Fr) (v : Int) : mny l v ≤ l.length := by
  unfold mny ob
  refine Nat.le_trans List.count_le_length ?_
  rw [List.length_map]
  exact List.length_filter_le _ _
set_option maxRecDepth 100000 in
set_option maxHeartbeats 1000000 in
theorem many_any (A : Option Addr) (n c : Nat) (l : List Fr) (v : Int) (w : World) (h : Pr w.heap.size w A l) (hn : l.length = n) (hs : n ≤ 10000) :
    Tells 22 #[.slice A n c, .int .u64 v] w (.int .i64 (mny l v)) := by
  have H := Lib.hid h
  have HN := Lib.hid hn
  clear h hn
  go_enter Try.func22, Try.ntmps22
  go_wp2
  go_loopw [5, 6] (fun q x wr => ∃ (j k : Nat), q = .int .i64 k ∧ x = .int .i64 j ∧ j ≤ n ∧ k ≤ j ∧ wr = w ∧ Hid (k = mny (l.take j) v)) (fun _ x _ => n - (intOf x).toNat)
  case atStart => exact ⟨0, 0, rfl, rfl, Nat.zero_le _, Nat.le_refl _, rfl, Lib.hid (by simp [mny, ob])⟩
  case round =>
    obtain ⟨j, k, rfl, rfl, hj, hkj, rfl, HK⟩ := hrel
    by_cases hlt : j < n
    · have hL : j < l.length := by rw [HN.out]; exact hlt
      obtain ⟨b, off, rfl, hbl, hc7⟩ := H.out.at hL
      have hm := mny_take hL v
      obtain ⟨f, hf⟩ : ∃ f, l[j] = f := ⟨_, rfl⟩
      rw [hf] at hc7 hm
      obtain ⟨o, p, q, vv, xx, y, s⟩ := f
      obtain ⟨a0, a1, a2, a3, a4, a5, a6⟩ := hc7
      simp only at a0 a1 a2 a3 a4 a5 a6 hm
      clear hf
      by_cases h1 : s = 1
      · have d1 : (s == 1) = true := by simp [h1]
        by_cases h2 : o = 0
        · have d2 : (o != 0) = false := by simp [h2]
          rw [if_neg (by simp [h2]), Nat.add_zero] at hm
          have HM := Lib.hid hm
          clear hm h1 h2
          go_wp2
          go_roundw
          case rel => exact ⟨j + 1, k, rfl, by go_num, by omega, by omega, trivial, Lib.hid (HK.out.trans HM.out.symm)⟩
          case measure => simp [intOf]; omega
        · have d2 : (o != 0) = true := by simp [h2]
          by_cases h3 : vv = v
          · have d3 : (vv == v) = true := by simp [h3]
            rw [if_pos ⟨h1, h2, h3⟩] at hm
            have HM := Lib.hid hm
            clear hm h1 h2 h3
            go_wp2
            go_roundw
            case rel => exact ⟨j + 1, k + 1, by go_num, by go_num, by omega, by omega, trivial, Lib.hid (by rw [HM.out, HK.out])⟩
            case measure => simp [intOf]; omega
          · have d3 : (vv == v) = false := by simp [h3]
            rw [if_neg (fun h => h3 h.2.2), Nat.add_zero] at hm
            have HM := Lib.hid hm
            clear hm h1 h2 h3
            go_wp2
            go_roundw
            case rel => exact ⟨j + 1, k, rfl, by go_num, by omega, by omega, trivial, Lib.hid (HK.out.trans HM.out.symm)⟩
            case measure => simp [intOf]; omega
      · have d1 : (s == 1) = false := by simp [h1]
        rw [if_neg (fun h => h1 h.1), Nat.add_zero] at hm
        have HM := Lib.hid hm
        clear hm h1
        go_wp2
        go_roundw
        case rel => exact ⟨j + 1, k, rfl, by go_num, by omega, by omega, trivial, Lib.hid (HK.out.trans HM.out.symm)⟩
        case measure => simp [intOf]; omega
    · have hje : j = n := by omega
      have e : l.take j = l := by rw [hje, ← HN.out, List.take_length]
      rw [e] at HK
      have hk := HK.out
      subst hk
      clear hje e HK
      go_wp2
      go_ret
      exact ⟨rfl, Below.refl _ _⟩
theorem fold_PV {D : Int} {t : Nat} {own : List Fr} (hu : ∀ f ∈ own, UF f) : ∀ (who : List Int) (k : Nat) (s : PS), PV D t k s → PV D t (k + who.length) (who.foldl (play1 D t own) s)
  | [], _, _, h => h
  | i :: r, k, s, h => by
    rw [List.foldl_cons, List.length_cons, show k + (r.length + 1) = (k + 1) + r.length by omega]
    refine fold_PV hu r (k + 1) _ ?_
    by_cases hi : 0 ≤ i ∧ i ≤ (t : Int)
    · obtain ⟨j, rfl⟩ := Int.eq_ofNat_of_zero_le hi.1
      have hl : j < s.a.length := by rw [h.al]; omega
      by_cases ho : (s.a.getD j fno).op < 0
      · rcases Nat.eq_zero_or_pos j with rfl | hj
        · have hn := nxt_uf (own := own.drop s.nx) (fun f hf => hu f (List.mem_of_mem_drop hf)) s.nx
          have e := turn_own (D := D) (th := (t : Int)) (own := own) (s := s) (by omega) hl ho
          rw [show ((0 : Nat) : Int) = 0 from rfl, e]
          exact h.turn 0 hn.1 hn.2 _
        · rw [turn_thief hi.2 hl ho hj]
          exact h.turn j (by unfold UF U fbg; simp) (by simp [fbg]) _
      · rw [turn_go hi.2 ho]
        exact h.turn j (h.uf j) (h.op j) _
    · have e : play1 D t own s i = s := by unfold play1; rw [if_neg hi]
      rw [e]
      exact ⟨h.ml, h.al, h.um, h.uf, h.op, Nat.le_succ_of_le h.ol⟩
/-- What holds of a play's lists, whatever came in. -/
theorem plO_U {D th : Int} {own : List Fr} (hu : ∀ f ∈ own, UF f) (who : List Int) : UM (plO D th own who).m ∧ (∀ i, UF ((plO D th own who).a.getD i fno)) ∧ (plO D th own who).m.length ≤ 500 ∧ (plO D th own who).a.length ≤ 9 ∧ (plO D th own who).over.length ≤ who.length := by
  unfold plO
  cases hk : plK D th
  · rw [if_neg (by simp)]
    exact ⟨fun u h => by simp at h, fun i => by simp; exact uf_fno, by simp, by simp, by simp⟩
  · rw [if_pos rfl]
    unfold plK at hk
    simp only [Bool.and_eq_true, decide_eq_true_eq] at hk
    obtain ⟨h1, h2, h3⟩ := hk
    obtain ⟨t, rfl⟩ := Int.eq_ofNat_of_zero_le h2
    have h := fold_PV hu who 0 (start D t) (PV.start t h1)
    have hs := sz_lim 1 D 1 0
    refine ⟨h.um, h.uf, ?_, ?_, ?_⟩
    · have := h.ml; unfold play; omega
    · have := h.al; unfold play; omega
    · have := h.ol; unfold play; omega
def aw0 : List Fr := [⟨0, 0, 0, 7, 0, 0, 0⟩]
def aw1 : List Int := [0, 0, 0, 0, 1, 1, 1, 1]
theorem aw_play : (plO 2 1 aw0 aw1).over.length = 2 ∧ ((plO 2 1 aw0 aw1).over.getD 0 fno).res = 1 ∧ ((plO 2 1 aw0 aw1).over.getD 1 fno).val = 7 ∧ ((plO 2 1 aw0 aw1).over.getD 1 fno).who = 1 ∧ (plO 2 1 aw0 aw1).a.length = 2 := by decide +kernel
theorem aw_rest : (rsO 2 (plO 2 1 aw0 aw1).m (plO 2 1 aw0 aw1).a).1.length = (plO 2 1 aw0 aw1).m.length ∧ (rsO 2 (plO 2 1 aw0 aw1).m (plO 2 1 aw0 aw1).a).2.length = 2 := by decide +kernel
set_option maxRecDepth 100000 in
set_option maxHeartbeats 4000000 in
theorem awake_any (w : World) : Tells 10 #[] w (.bool true) := by
  have b1 : Below w.heap.size w (w.alloc (.cells #[.int .i64 0, .int .i64 0, .int .i64 0, .int .u64 7, .int .u64 0, .int .u64 0, .int .i64 0] 28)) := (Below.refl _ _).alloc (Nat.le_refl _) _
  have g1 : Bg (w.alloc (.cells #[.int .i64 0, .int .i64 0, .int .i64 0, .int .u64 7, .int .u64 0, .int .u64 0, .int .i64 0] 28)) w.heap.size aw0 := heap_alloc_new _ _
  have s1 : (w.alloc (.cells #[.int .i64 0, .int .i64 0, .int .i64 0, .int .u64 7, .int .u64 0, .int .u64 0, .int .i64 0] 28)).heap.size = w.heap.size + 1 := by simp
  go_enter Try.func10, Try.ntmps10
  go_wp2_with fail
  generalize w.alloc (.cells #[.int .i64 0, .int .i64 0, .int .i64 0, .int .u64 7, .int .u64 0, .int .u64 0, .int .i64 0] 28) = w1 at b1 g1 s1 ⊢
  have b2 : Below w1.heap.size w1 (w1.alloc (.cells #[.int .i64 0, .int .i64 0, .int .i64 0, .int .i64 0, .int .i64 1, .int .i64 1, .int .i64 1, .int .i64 1] 3)) := (Below.refl _ _).alloc (Nat.le_refl _) _
  have g2 : (w1.alloc (.cells #[.int .i64 0, .int .i64 0, .int .i64 0, .int .i64 0, .int .i64 1, .int .i64 1, .int .i64 1, .int .i64 1] 3)).heap[w1.heap.size]? = some (.cells (aw1.map (Value.int .i64)).toArray 3 (0, 0)) := heap_alloc_new _ _
  have s2 : (w1.alloc (.cells #[.int .i64 0, .int .i64 0, .int .i64 0, .int .i64 0, .int .i64 1, .int .i64 1, .int .i64 1, .int .i64 1] 3)).heap.size = w1.heap.size + 1 := by simp
  generalize w1.alloc (.cells #[.int .i64 0, .int .i64 0, .int .i64 0, .int .i64 0, .int .i64 1, .int .i64 1, .int .i64 1, .int .i64 1] 3) = w2 at b2 g2 s2 ⊢
  have hP : Pr w2.heap.size w2 (some ⟨w.heap.size, 0, none⟩) aw0 := ((show Bg w2 w.heap.size aw0 from (b2.block _ (by omega)).trans g1)).pr (by omega)
  have hW : Ri w2 (some ⟨w.heap.size + 1, 0, none⟩) aw1 := fun _ => ⟨_, rfl, by simp only; omega, fun j u hu => by
    rw [add_zero', ← s1]
    simp only [World.cell?, g2]
    simp [hu]⟩
  have hU : ∀ f ∈ aw0, UF f := fun f hf => by
    simp only [aw0, List.mem_singleton] at hf
    subst hf; unfold UF U; simp
  have hz : Below w.heap.size w w2 := b1.trans (b2.mono (by omega))
  refine (play_any 2 1 _ _ 1 8 1 8 aw0 aw1 w2 hP hW (by omega) rfl rfl (by omega) hU).mono ?_
  obtain ⟨u1, u2, u3, u4, u5⟩ := plO_U (D := 2) (th := 1) hU aw1
  obtain ⟨p1, p2, p3, p4, p5⟩ := aw_play
  obtain ⟨q1, q2⟩ := aw_rest
  generalize plO 2 1 aw0 aw1 = s at *
  rintro _ w3 ⟨Am, cm, Ao, co, Aa, ca, rfl, rm, ro, hco, ra, z3⟩
  have Z3 := Lib.hid (hz.trans (z3.mono hz.size))
  have RM := Lib.hid rm
  have RO := Lib.hid ro
  have RA := Lib.hid ra
  have HP := Lib.hid (And.intro p2 (And.intro p3 p4))
  have HU := Lib.hid (And.intro u1 u2)
  have HQ := Lib.hid (And.intro q1 q2)
  have P1 := Lib.hid p1
  have P5 := Lib.hid p5
  obtain ⟨nm, hnm⟩ : ∃ nm, s.m.length = nm := ⟨_, rfl⟩
  rw [p1, p5, hnm]
  rw [hnm] at u3
  have HNM := Lib.hid hnm
  clear b1 g1 s1 b2 g2 s2 hP hW hU hz rm ro ra z3 p2 p3 p4 u1 u2 u4 u5 q1 q2 p1 p5 hco hnm
  go_wp2_with fail
  refine (rest_any 2 Am Aa nm cm 2 ca s.m s.a w3 RM.out RA.out HNM.out P5.out (by omega) u3 HU.out.1 HU.out.2).mono ?_
  obtain ⟨q1, q2⟩ := HQ.out
  generalize rsO 2 s.m s.a = R at q1 q2 ⊢
  rintro _ w4 ⟨An, cn, Ak, ck, rfl, _, _, z4⟩
  rw [q1, q2, HNM.out]
  have p1 := P1.out
  have RO4 := Lib.hid (RO.out.later z4)
  have Z4 := Lib.hid (Z3.out.trans (z4.mono Z3.out.size))
  obtain ⟨b, off, rfl, hb, c0⟩ := RO4.out.at (i := 0) (by omega)
  obtain ⟨b', off', e', _, c1⟩ := RO4.out.at (i := 1) (by omega)
  cases e'
  have hg0 : s.over[0]'(by omega) = s.over.getD 0 fno := by rw [List.getD_eq_getElem?_getD, List.getElem?_eq_getElem]; rfl
  have hg1 : s.over[1]'(by omega) = s.over.getD 1 fno := by rw [List.getD_eq_getElem?_getD, List.getElem?_eq_getElem]; rfl
  rw [hg0] at c0
  rw [hg1] at c1
  obtain ⟨h0, h1, h2⟩ := HP.out
  have x0 := c0.c6
  have x1 := c1.c3
  have x2 := c1.c2
  rw [h0] at x0
  rw [h1] at x1
  rw [h2] at x2
  simp only [Nat.zero_mul, Nat.add_zero, Nat.one_mul] at x0 x1 x2
  clear p1 q1 q2 z4 Z3 RM RO RA HP HU HQ hg0 hg1 h0 h1 h2 c0 c1 RO4
  go_wp2
  go_ret
  exact ⟨rfl, Z4.out⟩
end Go.Proofs.Ytpeaahihjeplmaa
