/- The walk of DequeBoth. -/
import Derived.Test.YtpeaahihjeplmaaDeJ
import Derived.Test.YtpeaahihjeplmaaDeI
namespace Go.Proofs.Ytpeaahihjeplmaa
open Go.RowKit Go.Deep Go.Shelf
theorem OwI.below {w w' : World} {base : Nat} {A : Option Addr} {n c : Nat} {l : List Int} (h : OwI w base A n c l) (hb : Below w.heap.size w w') : OwI w' base A n c l := by
  refine ⟨h.1, ?_⟩
  rcases h.2 with h2 | ⟨g, cap, cur, hv, hbg, hg, hr⟩
  · exact .inl h2
  · exact .inr ⟨g, cap, cur, hv, hbg, (hb.block g (Array.getElem?_eq_some_iff.1 hg).1).trans hg, hr⟩
theorem rb_new (w : World) (l : List Bool) : Rb (w.alloc (.cells (l.map Value.bool).toArray 4)) (some ⟨w.heap.size, 0, none⟩) l := fun _ => by
  have hg := heap_alloc_new w (.cells (l.map Value.bool).toArray 4)
  refine ⟨_, rfl, (Array.getElem?_eq_some_iff.1 hg).1, fun j u hu => ?_⟩
  rw [add_zero']
  unfold World.cell?
  rw [hg]
  simp [hu]
set_option maxRecDepth 100000 in
/-- Numbers appended to a row that is owned: all blocks but its own stay. -/
theorem app_lit {w : World} {base g : Nat} {n c : Nat} {l : List Int} (ho : OwI w base (some ⟨g, 0, none⟩) n c l) {B : Option Addr} {m : Nat} (d : Nat) {k : List Int} (hk : Ri w B k) (hm : k.length = m) (hs : n + m ≤ 1000000) (hb : base ≤ w.heap.size) :
    ∃ A' c' w', (Builtin.append_ #[30, 30] 30 #[.slice (some ⟨g, 0, none⟩) n c, .slice B m d]).run Try.prog w = .ok (.slice A' (n + m) c') w' ∧ OwI w' base A' (n + m) c' (l ++ k) ∧ Below base w w' ∧ w.heap.size ≤ w'.heap.size ∧ ∀ b, b < w.heap.size → b ≠ g → w'.heap[b]? = w.heap[b]? := by
  rcases B with _ | ad
  · have h0 : m = 0 := by
      rcases Nat.eq_zero_or_pos m with h | h
      · exact h
      · obtain ⟨_, h, _⟩ := hk (by omega)
        cases h
    subst h0
    obtain ⟨i0, hi0, hz⟩ := Option.map_eq_some_iff.1 Try.info3
    have e : (Builtin.append_ #[30, 30] 30 #[.slice (some ⟨g, 0, none⟩) n c, .slice none 0 d]).run Try.prog w = .ok (.slice (some ⟨g, 0, none⟩) n c) w := by
      rcases ho.2 with ⟨hv, _⟩ | ⟨g', cap, cur, hv, _, _, hnc, _⟩
      · injection hv with hA _ _
        cases hA
      · injection hv with hA hn hc
        subst hc
        simp [Builtin.append_, run_underlying Try.underlying30, sizeOf, typeInfo, hi0, Builtin.lenOf, Builtin.firstCells, hnc, storeCells]
    obtain rfl : k = [] := List.eq_nil_of_length_eq_zero hm
    exact ⟨_, _, w, e, by simpa using ho, Below.refl _ _, Nat.le_refl _, fun _ _ _ => rfl⟩
  · obtain ⟨i0, hi0, hz⟩ := Option.map_eq_some_iff.1 Try.info3
    simp only [Prod.mk.injEq] at hz
    obtain ⟨hz0, hz1, hz2⟩ := hz
    have hc : ∀ j u, k[j]? = some u → w.cell? (ad.add j) = some (.int .i64 u) := fun j u hu => by
      obtain ⟨_, h, _, h'⟩ := hk (by have := (List.getElem?_eq_some_iff.1 hu).1; omega)
      injection h with h
      subst h
      exact h' j u hu
    obtain ⟨v', w', hrun, h2, h3, _, h5⟩ := run_append_own_at (P := Try.prog) w base 30 30 3 i0 (.int .i64 0) 1 8 Try.underlying30 hi0 hz0 hz1 hz2 rfl (by omega) _ n _ ho ad m d (k.map (Value.int .i64)) (by simp [hm])
      (fun j u hu => by
        simp only [List.getElem?_map, Option.map_eq_some_iff] at hu
        obtain ⟨x, hx, rfl⟩ := hu
        exact hc j x hx) (fun u hu => by simp only [List.mem_map] at hu; obtain ⟨x, _, rfl⟩ := hu; rfl) (by simp only [maxLen]; omega) (by omega) hb
    have fin : ∃ A' c', v' = .slice A' (n + m) c' := by
      rcases h2.2 with ⟨e1, e2⟩ | ⟨g', cap, cur, e1, _⟩
      · exact ⟨none, 0, by rw [e1, show n + m = 0 from e2]⟩
      · exact ⟨_, cap, e1⟩
    obtain ⟨A', c', rfl⟩ := fin
    refine ⟨A', c', w', hrun, by unfold OwI; rw [List.map_append]; exact h2, (Below.refl base w).grown h3 hb (fun j hj => (World.ownsRow.lt ho j hj).1), h3.size, fun b hlt hne => h3.block b hlt fun e => ?_⟩
    injection e with e
    exact hne e
set_option maxRecDepth 100000 in
set_option maxHeartbeats 4000000 in
theorem both_tells (D th : Int) (B : Option Addr) (nw cw : Nat) (who : List Int) (w : World) (hW : Ri w B who) (hnw : who.length = nw) :
    Tells 8 #[.int .i64 D, .int .i64 th, .slice B nw cw] w (.bool true) := by
  have HW := Lib.hid hW
  have HNW := Lib.hid hnw
  clear hW hnw
  go_enter Try.func8, Try.ntmps8
  go_wp2_with fail
  refine (awake_any _).mono ?_
  rintro _ w1 ⟨rfl, z1⟩
  have Z1 := Lib.hid z1
  clear z1
  by_cases h500 : nw ≤ 500
  · have d2 : decide ((nw : Int) > 500) = false := decide_eq_false (by omega)
    by_cases ht1 : th < 1
    · have d3 : decide (th < 1) = true := decide_eq_true ht1
      go_wp2
      go_ret
      exact ⟨rfl, Z1.out⟩
    · by_cases ht8 : 8 < th
      · have d3 : decide (th < 1) = false := decide_eq_false ht1
        have d4 : decide (th > 8) = true := decide_eq_true ht8
        go_wp2
        go_ret
        exact ⟨rfl, Z1.out⟩
      · have d3 : decide (th < 1) = false := decide_eq_false ht1
        have d4 : decide (th > 8) = false := decide_eq_false ht8
        have ht0 : 0 ≤ th := by omega
        have HT := Lib.hid ht0
        clear ht1 ht8 ht0
        go_upto_region 5 with (fail)
        have hi := owi_new (w := w1) (base := w.heap.size) Z1.out.size [0, 0, 0, 0] (n := 4) rfl (by omega)
        have z2 := box_below w1 (.cells #[.int .i64 0, .int .i64 0, .int .i64 0, .int .i64 0] 3)
        simp only [List.map_cons, List.map_nil] at hi
        generalize w1.alloc (.cells #[.int .i64 0, .int .i64 0, .int .i64 0, .int .i64 0] 3) = w2 at hi z2 ⊢
        replace HW := Lib.hid ((HW.out.below Z1.out).below z2)
        have Z2 := Lib.hid (Z1.out.trans (z2.mono Z1.out.size))
        have HI := Lib.hid hi
        have HG := Lib.hid (show w1.heap.size < w2.heap.size from by have := hi.ri (by simp); obtain ⟨ad, e, h1, _⟩ := this; injection e with e; subst e; exact h1)
        clear z2 hi
        have rb := rb_new w2 [false, true]
        simp only [List.map_cons, List.map_nil] at rb
        have RB := Lib.hid rb
        clear rb
        go_wp2_with fail
        refine (lcalls_any (some ⟨w2.heap.size, 0, none⟩) 2 2 [false, true] _ RB.out rfl (by omega)).mono ?_
        rintro _ w3 ⟨Q, d, rfl, hq, z3⟩
        replace z3 := (box_below w2 _).trans (z3.mono (box_below w2 _).size)
        replace HI := Lib.hid (HI.out.below z3)
        replace HW := Lib.hid (HW.out.below z3)
        have Z3 := Lib.hid (Z2.out.trans (z3.mono Z2.out.size))
        have hg12 := HG.out
        clear z3 RB
        obtain ⟨A4, c4, w4, hrun, hown, hbel, hsz4, hsame⟩ := app_lit HI.out cw HW.out HNW.out (by omega) Z3.out.size
        obtain ⟨mw, hmw⟩ : ∃ mw, 4 + nw = mw := ⟨_, rfl⟩
        rw [hmw] at hrun hown
        have RUN := Lib.hid hrun
        have RW := Lib.hid hown.ri
        have HMW := Lib.hid hown.len
        have HM4 := Lib.hid hmw
        have hm5 : mw ≤ 504 := by omega
        have hq4 := hq.kept (w' := w4) (fun k hk => hsame k (World.ownsRow.lt hq k hk).2 (by have := (World.ownsRow.lt hq k hk).1; have := (box_below w2 (.cells #[.bool false, .bool true] 4)).size; omega))
        have HQ := Lib.hid hq4.pr
        have HCAP := Lib.hid (ow_cap hq4)
        have Z4 := Lib.hid (Z3.out.trans hbel)
        clear hq hq4 hsame hsz4 hg12 HI HW
        clear hrun hown hmw hbel
        go_wp2_with (at_builtin; (with_reducible refine wpList_append_fr RUN.out ?_ ?_ ?_ ?_); exact ⟨_, _, rfl, rfl, rfl⟩; rfl; rfl)
        have hpl : ([false, true] : List Bool).length ≤ 60 := by simp
        refine (play_any D th Q A4 d c4 2 mw (cs [false, true]) ([0, 0, 0, 0] ++ who) w4 HQ.out RW.out HCAP.out (by rw [cs_len]; rfl) HMW.out hm5 (cs_UF _ hpl)).mono ?_
        have o4 := plO_U (D := D) (th := th) (cs_UF [false, true] hpl) ([0, 0, 0, 0] ++ who)
        rw [HMW.out] at o4
        rintro _ w5 ⟨Am, cm, Ao, co, Aa, ca, rfl, rm, ro, hco, ra, z5⟩
        have Z5 := Lib.hid (Z4.out.trans (z5.mono Z4.out.size))
        clear z5 HQ HCAP RW Z4 hpl
        cases hpk : plK D th
        · rw [play_hard hpk]
          go_wp2
          go_ret
          exact ⟨rfl, Z5.out⟩
        · obtain ⟨e0, hmay, _⟩ := play_may (own := cs [false, true]) (who := [0, 0, 0, 0] ++ who) hpk
          have hrs := play_rs (pops := [false, true]) (who := [0, 0, 0, 0] ++ who) hmay HT.out (by simp)
          have hal := (play_hand (th := th) (pops := [false, true]) hmay (by simp) ([0, 0, 0, 0] ++ who)).1
          rw [e0] at rm ro hco ra o4 ⊢
          obtain ⟨⟨n, k⟩, hr⟩ : ∃ s, restL 1 D 1 0 (play D th (cs [false, true]) ([0, 0, 0, 0] ++ who)).m (play D th (cs [false, true]) ([0, 0, 0, 0] ++ who)).a = s := ⟨_, rfl⟩
          have BL := Lib.hid (both_list hmay HT.out who hr)
          have hln := restL_len (W := 1) (D := D) (J := 1) (S := 0) (play D th (cs [false, true]) ([0, 0, 0, 0] ++ who)).m (play D th (cs [false, true]) ([0, 0, 0, 0] ++ who)).a
          rw [hr] at hln
          have hrO : rsO D (play D th (cs [false, true]) ([0, 0, 0, 0] ++ who)).m (play D th (cs [false, true]) ([0, 0, 0, 0] ++ who)).a = (n, k) := by unfold rsO; rw [if_pos hrs, hr]
          generalize play D th (cs [false, true]) ([0, 0, 0, 0] ++ who) = s at *
          obtain ⟨hu1, hu2, hu3, hu4, hu5⟩ := o4
          obtain ⟨nm, hnm⟩ : ∃ nm, s.m.length = nm := ⟨_, rfl⟩
          obtain ⟨na, hna⟩ : ∃ na, s.a.length = na := ⟨_, rfl⟩
          obtain ⟨no, hno⟩ : ∃ no, s.over.length = no := ⟨_, rfl⟩
          rw [hnm] at hu3 hln
          rw [hna] at hu4 hal hln
          rw [hno] at hu5 hco
          rw [hnm, hna, hno]
          have f1 : ((na : Int) == 0) = false := by simp; omega
          have RM := Lib.hid rm
          have RO := Lib.hid ro
          have RA := Lib.hid ra
          have HNM := Lib.hid hnm
          have HNA := Lib.hid hna
          have HNO := Lib.hid hno
          have HU := Lib.hid (And.intro hu1 hu2)
          have HRO := Lib.hid hrO
          have HL1 := Lib.hid hln.1
          have HL2 := Lib.hid hln.2
          clear rm ro ra hnm hna hno hu1 hu2 hrO hr hrs e0 hln hmay hpk hal
          go_wp2_with fail
          refine (rest_any D Am Aa nm cm na ca s.m s.a w5 RM.out RA.out HNM.out HNA.out (by omega) (by omega) HU.out.1 HU.out.2).mono ?_
          rw [HRO.out]
          rintro _ w6 ⟨An, cn, Ak, ck, rfl, _, rk, z6⟩
          have Z6 := Lib.hid (Z5.out.trans (z6.mono Z5.out.size))
          replace RO := Lib.hid (RO.out.later z6)
          have RK := Lib.hid rk
          simp only [HL1.out, HL2.out]
          clear rk z6 RM RA HU HRO HNM
          obtain ⟨Q1, d1, w7, run1, own1, _, bel1, _⟩ := app_frs (Ow.nil w6 w6.heap.size) co RO.out.src HNO.out (by omega) (Nat.le_refl _)
          rw [Nat.zero_add, List.nil_append] at own1
          rw [Nat.zero_add] at run1
          obtain ⟨Q2, d2', w8, run2, own2, _, bel2, _⟩ := app_frs own1 ck (RK.out.later bel1).src HL2.out (by omega) bel1.size
          obtain ⟨nt, hnt⟩ : ∃ nt, no + na = nt := ⟨_, rfl⟩
          have HNT := Lib.hid (show (s.over ++ k).length = nt by rw [List.length_append, HNO.out, HL2.out, hnt])
          rw [hnt] at run2 own2
          have hnt6 : nt ≤ 600 := by omega
          have RUN1 := Lib.hid run1
          have RUN2 := Lib.hid run2
          have PT := Lib.hid own2.pr
          have Z8 := Lib.hid (Z6.out.trans ((bel1.trans bel2).mono Z6.out.size))
          clear run1 run2 own1 own2 bel1 bel2 hnt RO RK HNO HNA HL2 Z5 Z6
          generalize s.over ++ k = l at BL HNT PT
          go_wp2_with (first
            | (at_builtin; (with_reducible refine wpList_append_fr RUN1.out ?_ ?_ ?_ ?_); exact ⟨_, _, rfl, rfl, rfl⟩; rfl; rfl)
            | (at_builtin; (with_reducible refine wpList_append_fr RUN2.out ?_ ?_ ?_ ?_); exact ⟨_, _, rfl, rfl, rfl⟩; rfl; rfl))
          go_loopw [15, 16] (fun q x wr => ∃ (j c : Nat), q = .int .i64 c ∧ x = .int .i64 j ∧ j ≤ nt ∧ c ≤ j ∧ Hid (c = ovr 1 (l.take j)) ∧ Hid (Below w8.heap.size w8 wr)) (fun _ x _ => nt - (intOf x).toNat)
          case atStart => exact ⟨0, 0, rfl, rfl, Nat.zero_le _, Nat.le_refl _, Lib.hid (by simp [ovr]), Lib.hid (Below.refl _ _)⟩
          case round =>
            obtain ⟨j, c, rfl, rfl, hj, hcj, HK, HZ⟩ := hrel
            by_cases hlt : j < nt
            · have hL : j < l.length := by rw [HNT.out]; exact hlt
              obtain ⟨b, off, rfl, hbl, hc7⟩ := (PT.out.later HZ.out).at hL
              have hm := ovr_take hL 1
              obtain ⟨f, hf⟩ : ∃ f, l[j] = f := ⟨_, rfl⟩
              rw [hf] at hc7 hm
              obtain ⟨o, p, q, vv, xx, y, r⟩ := f
              obtain ⟨a0, a1, a2, a3, a4, a5, a6⟩ := hc7
              simp only at a0 a1 a2 a3 a4 a5 a6 hm
              clear hf
              by_cases h1 : o = 1
              · have g1 : (o == 1) = true := by simp [h1]
                by_cases h2 : r = 0
                · have hov := fun w => Tells.of (over_any ⟨o, p, q, vv, xx, y, r⟩ w) (v' := .bool false) (by simp [h2])
                  have HOV := Lib.hid hov
                  rw [if_neg (by simp [h2]), Nat.add_zero] at hm
                  have HM := Lib.hid hm
                  clear hov hm h1 h2
                  go_wp2_with (go_at_call 20; refine (HOV.out _).mono ?_; rintro _ w9 ⟨rfl, z9⟩)
                  go_roundw
                  case rel => exact ⟨j + 1, c, rfl, by go_num, by omega, by omega, Lib.hid (HK.out.trans HM.out.symm), Lib.hid (HZ.out.trans (z9.mono HZ.out.size))⟩
                  case measure => simp [intOf]; omega
                · have hov := fun w => Tells.of (over_any ⟨o, p, q, vv, xx, y, r⟩ w) (v' := .bool true) (by simp [h2])
                  have HOV := Lib.hid hov
                  rw [if_pos ⟨h1, h2⟩] at hm
                  have HM := Lib.hid hm
                  clear hov hm h1 h2
                  go_wp2_with (go_at_call 20; refine (HOV.out _).mono ?_; rintro _ w9 ⟨rfl, z9⟩)
                  go_roundw
                  case rel => exact ⟨j + 1, c + 1, by go_num, by go_num, by omega, by omega, Lib.hid (by rw [HM.out, HK.out]), Lib.hid (HZ.out.trans (z9.mono HZ.out.size))⟩
                  case measure => simp [intOf]; omega
              · have g1 : (o == 1) = false := by simp [h1]
                rw [if_neg (fun h => h1 h.1), Nat.add_zero] at hm
                have HM := Lib.hid hm
                clear hm h1
                go_wp2
                go_roundw
                case rel => exact ⟨j + 1, c, rfl, by go_num, by omega, by omega, Lib.hid (HK.out.trans HM.out.symm), HZ⟩
                case measure => simp [intOf]; omega
            · have hje : j = nt := by omega
              have e : l.take j = l := by rw [hje, ← HNT.out, List.take_length]
              rw [e] at HK
              have hk := HK.out
              have PT2 := Lib.hid (PT.out.later HZ.out)
              have Z9 := Lib.hid (Z8.out.trans (HZ.out.mono Z8.out.size))
              have hbl := BL.out
              rw [← hk] at hbl
              have BL2 := Lib.hid hbl
              clear hje e HK hk hbl BL HZ PT
              go_wp2_with fail
              refine (many_any Q2 nt d2' l 1 wr PT2.out HNT.out (by omega)).mono ?_
              rintro _ w9 ⟨rfl, z9⟩
              have hbl := BL2.out
              generalize mny l 1 = y at hbl ⊢
              clear BL2
              have Z := Lib.hid (Z9.out.trans (z9.mono Z9.out.size))
              have x1 : decide ((y : Int) ≤ 1) = true := decide_eq_true (by omega)
              by_cases hy : y = 1
              · have x2 : ((y : Int) == 1) = true := by simp [hy]
                clear hbl hy
                go_wp2
                all_goals
                  go_ret
                  exact ⟨rfl, Z.out⟩
              · have x2 : ((y : Int) == 1) = false := by simp; omega
                have hc0 : c = 0 := by omega
                subst hc0
                clear hbl hy
                go_wp2
                go_ret
                exact ⟨rfl, Z.out⟩
  · have d2 : decide ((nw : Int) > 500) = true := decide_eq_true (by omega)
    go_wp2
    go_ret
    exact ⟨rfl, Z1.out⟩
end Go.Proofs.Ytpeaahihjeplmaa
