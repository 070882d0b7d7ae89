/- The walk of ThinkSpawns. -/
import Derived.Test.YtobcedlkmnmikaaThW
import Derived.Test.YtobcedlkmnmikaaItQ
import Derived.Test.YtobcedlkmnmikaaThS
namespace Go.Proofs.Ytobcedlkmnmikaa.Fo
open Go.RowKit Go.Deep
set_option linter.unusedVariables false
attribute [local go_sem ↓] eql_act neq_act guard_act eql_it neq_it guard_it
attribute [local go_sem] field_kind
set_option maxRecDepth 100000 in
set_option maxHeartbeats 4000000 in
theorem spawnsl_few (A S : Option Addr) (c lt cS nS : Nat) (T : List Tsk) (lS : List Itm) (k : Int) (w : World) (hT : Tk w.heap.size w A T) (htl : T.length ≤ maxLen) (hkl : ∀ x ∈ T, x.2.length ≤ maxLen) (hlt : T.length = lt) (hS : Ir w.heap.size w S lS) (hnS : lS.length = nS) (hmS : nS ≤ maxLen) (hcS : nS ≤ cS) (hdS : cS ≤ maxLen) (heS : S = none → cS = 0) (hfew : few T = false) : Tells 5 #[.slice A lt c, .slice S nS cS, .int .i64 k] w (.bool true) := by
  have HT := Lib.hid hT
  have HLT := Lib.hid hlt
  have HKL := Lib.hid hkl
  have Z := Lib.hid (Below.refl w.heap.size w)
  have HS := Lib.hid hS
  have HNS := Lib.hid hnS
  have HES := Lib.hid heS
  unfold maxLen at hmS hdS
  clear hT hlt hkl hS hnS heS
  go_enter Try.func5, Try.ntmps5
  go_wp2_with fail
  refine (awake_any w).mono ?_
  rintro _ w1 ⟨rfl, zz⟩
  replace HT := Lib.hid (HT.out.later zz)
  replace HS := Lib.hid (HS.out.later zz)
  replace Z := Lib.hid (Z.out.trans (zz.mono Z.out.size))
  clear zz
  go_wp2_with fail
  refine (kfew w1 HT.out htl HKL.out HLT.out hfew).mono ?_
  rintro _ w2 ⟨rfl, ew⟩
  subst ew
  go_wp2
  go_ret
  exact ⟨rfl, Z.out⟩
set_option maxRecDepth 100000 in
set_option maxHeartbeats 4000000 in
theorem spawnsl_longS (A S : Option Addr) (c lt cS nS : Nat) (T : List Tsk) (lS : List Itm) (k : Int) (w : World) (hT : Tk w.heap.size w A T) (htl : T.length ≤ maxLen) (hkl : ∀ x ∈ T, x.2.length ≤ maxLen) (hlt : T.length = lt) (hS : Ir w.heap.size w S lS) (hnS : lS.length = nS) (hmS : nS ≤ maxLen) (hcS : nS ≤ cS) (hdS : cS ≤ maxLen) (heS : S = none → cS = 0) (hfew : few T = true) (hlS : 40 < nS) : Tells 5 #[.slice A lt c, .slice S nS cS, .int .i64 k] w (.bool true) := by
  have HT := Lib.hid hT
  have HLT := Lib.hid hlt
  have HKL := Lib.hid hkl
  have Z := Lib.hid (Below.refl w.heap.size w)
  have HS := Lib.hid hS
  have HNS := Lib.hid hnS
  have HES := Lib.hid heS
  unfold maxLen at hmS hdS
  clear hT hlt hkl hS hnS heS
  go_enter Try.func5, Try.ntmps5
  go_wp2_with fail
  refine (awake_any w).mono ?_
  rintro _ w1 ⟨rfl, zz⟩
  replace HT := Lib.hid (HT.out.later zz)
  replace HS := Lib.hid (HS.out.later zz)
  replace Z := Lib.hid (Z.out.trans (zz.mono Z.out.size))
  clear zz
  go_wp2_with fail
  refine (kfew w1 HT.out htl HKL.out HLT.out hfew).mono ?_
  rintro _ w2 ⟨rfl, ew⟩
  subst ew
  go_wp2
  go_ret
  exact ⟨rfl, Z.out⟩
set_option maxRecDepth 100000 in
set_option maxHeartbeats 4000000 in
theorem spawnsl_no (A S : Option Addr) (c lt cS nS : Nat) (T : List Tsk) (lS : List Itm) (k : Int) (w : World) (hT : Tk w.heap.size w A T) (htl : T.length ≤ maxLen) (hkl : ∀ x ∈ T, x.2.length ≤ maxLen) (hlt : T.length = lt) (hS : Ir w.heap.size w S lS) (hnS : lS.length = nS) (hmS : nS ≤ maxLen) (hcS : nS ≤ cS) (hdS : cS ≤ maxLen) (heS : S = none → cS = 0) (hfew : few T = true) (hlS : nS ≤ 40) (hmay : mayS T lS = false) : Tells 5 #[.slice A lt c, .slice S nS cS, .int .i64 k] w (.bool true) := by
  have SM := Lib.hid (few_sm hfew)
  have hlS1 : ¬ 40 < nS := by omega
  have HT := Lib.hid hT
  have HLT := Lib.hid hlt
  have HKL := Lib.hid hkl
  have Z := Lib.hid (Below.refl w.heap.size w)
  have HS := Lib.hid hS
  have HNS := Lib.hid hnS
  have HES := Lib.hid heS
  unfold maxLen at hmS hdS
  clear hT hlt hkl hS hnS heS
  go_enter Try.func5, Try.ntmps5
  go_wp2_with fail
  refine (awake_any w).mono ?_
  rintro _ w1 ⟨rfl, zz⟩
  replace HT := Lib.hid (HT.out.later zz)
  replace HS := Lib.hid (HS.out.later zz)
  replace Z := Lib.hid (Z.out.trans (zz.mono Z.out.size))
  clear zz
  go_wp2_with fail
  refine (kfew w1 HT.out htl HKL.out HLT.out hfew).mono ?_
  rintro _ w2 ⟨rfl, ew⟩
  subst ew
  go_wp2_with fail
  refine (kmay HT.out HS.out SM.out HLT.out HNS.out (by omega) hmay).mono ?_
  rintro _ w2 ⟨rfl, zz⟩
  replace HT := Lib.hid (HT.out.later zz)
  replace HS := Lib.hid (HS.out.later zz)
  replace Z := Lib.hid (Z.out.trans (zz.mono Z.out.size))
  clear zz
  go_wp2
  go_ret
  exact ⟨rfl, Z.out⟩
set_option maxRecDepth 100000 in
set_option maxHeartbeats 4000000 in
theorem spawnsl_outa (A S : Option Addr) (c lt cS nS : Nat) (T : List Tsk) (lS : List Itm) (k : Int) (w : World) (hT : Tk w.heap.size w A T) (htl : T.length ≤ maxLen) (hkl : ∀ x ∈ T, x.2.length ≤ maxLen) (hlt : T.length = lt) (hS : Ir w.heap.size w S lS) (hnS : lS.length = nS) (hmS : nS ≤ maxLen) (hcS : nS ≤ cS) (hdS : cS ≤ maxLen) (heS : S = none → cS = 0) (hfew : few T = true) (hlS : nS ≤ 40) (hmay : mayS T lS = true) (hk : k < 0) : Tells 5 #[.slice A lt c, .slice S nS cS, .int .i64 k] w (.bool true) := by
  have SM := Lib.hid (few_sm hfew)
  have hlS1 : ¬ 40 < nS := by omega
  have HFM := Lib.hid (mayS_all hmay).1
  have HT := Lib.hid hT
  have HLT := Lib.hid hlt
  have HKL := Lib.hid hkl
  have Z := Lib.hid (Below.refl w.heap.size w)
  have HS := Lib.hid hS
  have HNS := Lib.hid hnS
  have HES := Lib.hid heS
  unfold maxLen at hmS hdS
  clear hT hlt hkl hS hnS heS
  go_enter Try.func5, Try.ntmps5
  go_wp2_with fail
  refine (awake_any w).mono ?_
  rintro _ w1 ⟨rfl, zz⟩
  replace HT := Lib.hid (HT.out.later zz)
  replace HS := Lib.hid (HS.out.later zz)
  replace Z := Lib.hid (Z.out.trans (zz.mono Z.out.size))
  clear zz
  go_wp2_with fail
  refine (kfew w1 HT.out htl HKL.out HLT.out hfew).mono ?_
  rintro _ w2 ⟨rfl, ew⟩
  subst ew
  go_wp2_with fail
  refine (kmay HT.out HS.out SM.out HLT.out HNS.out (by omega) hmay).mono ?_
  rintro _ w2 ⟨rfl, zz⟩
  replace HT := Lib.hid (HT.out.later zz)
  replace HS := Lib.hid (HS.out.later zz)
  replace Z := Lib.hid (Z.out.trans (zz.mono Z.out.size))
  clear zz
  go_wp2_with fail
  refine (kfmay HT.out SM.out HLT.out HFM.out).mono ?_
  rintro _ w3 ⟨rfl, zz⟩
  replace HT := Lib.hid (HT.out.later zz)
  replace HS := Lib.hid (HS.out.later zz)
  replace Z := Lib.hid (Z.out.trans (zz.mono Z.out.size))
  clear zz
  go_wp2
  go_ret
  exact ⟨rfl, Z.out⟩
set_option maxRecDepth 100000 in
set_option maxHeartbeats 4000000 in
theorem spawnsl_outb (A S : Option Addr) (c lt cS nS : Nat) (T : List Tsk) (lS : List Itm) (k : Int) (w : World) (hT : Tk w.heap.size w A T) (htl : T.length ≤ maxLen) (hkl : ∀ x ∈ T, x.2.length ≤ maxLen) (hlt : T.length = lt) (hS : Ir w.heap.size w S lS) (hnS : lS.length = nS) (hmS : nS ≤ maxLen) (hcS : nS ≤ cS) (hdS : cS ≤ maxLen) (heS : S = none → cS = 0) (hfew : few T = true) (hlS : nS ≤ 40) (hmay : mayS T lS = true) (hk : (lt : Int) ≤ k) (hk0 : ¬ k < 0) : Tells 5 #[.slice A lt c, .slice S nS cS, .int .i64 k] w (.bool true) := by
  have SM := Lib.hid (few_sm hfew)
  have hlS1 : ¬ 40 < nS := by omega
  have HFM := Lib.hid (mayS_all hmay).1
  have HT := Lib.hid hT
  have HLT := Lib.hid hlt
  have HKL := Lib.hid hkl
  have Z := Lib.hid (Below.refl w.heap.size w)
  have HS := Lib.hid hS
  have HNS := Lib.hid hnS
  have HES := Lib.hid heS
  unfold maxLen at hmS hdS
  clear hT hlt hkl hS hnS heS
  go_enter Try.func5, Try.ntmps5
  go_wp2_with fail
  refine (awake_any w).mono ?_
  rintro _ w1 ⟨rfl, zz⟩
  replace HT := Lib.hid (HT.out.later zz)
  replace HS := Lib.hid (HS.out.later zz)
  replace Z := Lib.hid (Z.out.trans (zz.mono Z.out.size))
  clear zz
  go_wp2_with fail
  refine (kfew w1 HT.out htl HKL.out HLT.out hfew).mono ?_
  rintro _ w2 ⟨rfl, ew⟩
  subst ew
  go_wp2_with fail
  refine (kmay HT.out HS.out SM.out HLT.out HNS.out (by omega) hmay).mono ?_
  rintro _ w2 ⟨rfl, zz⟩
  replace HT := Lib.hid (HT.out.later zz)
  replace HS := Lib.hid (HS.out.later zz)
  replace Z := Lib.hid (Z.out.trans (zz.mono Z.out.size))
  clear zz
  go_wp2_with fail
  refine (kfmay HT.out SM.out HLT.out HFM.out).mono ?_
  rintro _ w3 ⟨rfl, zz⟩
  replace HT := Lib.hid (HT.out.later zz)
  replace HS := Lib.hid (HS.out.later zz)
  replace Z := Lib.hid (Z.out.trans (zz.mono Z.out.size))
  clear zz
  go_wp2
  go_ret
  exact ⟨rfl, Z.out⟩
set_option maxRecDepth 100000 in
set_option maxHeartbeats 4000000 in
theorem spawnsl_in (A S : Option Addr) (c lt cS nS : Nat) (T : List Tsk) (lS : List Itm) (k : Int) (w : World) (hT : Tk w.heap.size w A T) (htl : T.length ≤ maxLen) (hkl : ∀ x ∈ T, x.2.length ≤ maxLen) (hlt : T.length = lt) (hS : Ir w.heap.size w S lS) (hnS : lS.length = nS) (hmS : nS ≤ maxLen) (hcS : nS ≤ cS) (hdS : cS ≤ maxLen) (heS : S = none → cS = 0) (hfew : few T = true) (hlS : nS ≤ 40) (hmay : mayS T lS = true) (hk0 : 0 ≤ k) (hk : k < (lt : Int)) : Tells 5 #[.slice A lt c, .slice S nS cS, .int .i64 k] w (.bool true) := by
  have SM := Lib.hid (few_sm hfew)
  have hlS1 : ¬ 40 < nS := by omega
  have HFM := Lib.hid (mayS_all hmay).1
  obtain ⟨u, rfl⟩ := Int.eq_ofNat_of_zero_le hk0
  have hu : u < T.length := by omega
  obtain ⟨g1, g2, g3⟩ := start_S hmay hk0 (by rw [hlt]; exact hk)
  have hw := wk_at (may_parts (mayS_all hmay).1).2.1 hu
  have hkl2 := (few_sm hfew).at hu
  have ew := wkA_at hu
  have ek := kdA_at hu
  obtain ⟨W, hW⟩ := Int.eq_ofNat_of_zero_le hw.1
  rw [hW] at hw
  obtain ⟨KL, hKL⟩ : ∃ l, l = T[u].2 := ⟨_, rfl⟩
  have HAT := Lib.hid (show ∀ w', Tk w'.heap.size w' A T → ∃ b off K c, A = some ⟨b, off, none⟩ ∧ b < w'.heap.size ∧ w'.cell? ⟨b, off + u * 2, none⟩ = some (.int .i64 (W : Int)) ∧ w'.cell? ⟨b, off + u * 2 + 1, none⟩ = some (.slice K KL.length c) ∧ RdB w'.heap.size w' K KL from fun w' h => by have h2 := h.at hu; rw [hW, ← hKL] at h2; exact h2)
  rw [← hKL] at hkl2 ek
  rw [hW] at ew
  clear hKL
  have EW := Lib.hid ew
  have EK := Lib.hid ek
  have G1 := Lib.hid g1
  have G2 := Lib.hid g2
  have HU := Lib.hid hu
  have hm : ∀ a b : Int, (lS ++ [((u : Int), a, b)]).length = nS + 1 := by intro a b; simp [hnS]
  have HM := Lib.hid hm
  have hae := ae_yes (a := 1) (b := u) (a' := 1) (b' := u) rfl
  have hae3 := ae_yes (a := 3) (b := u) (a' := 3) (b' := u) rfl
  clear g1 g2 g3 hm ew ek
  have HT := Lib.hid hT
  have HLT := Lib.hid hlt
  have HKL := Lib.hid hkl
  have Z := Lib.hid (Below.refl w.heap.size w)
  have HS := Lib.hid hS
  have HNS := Lib.hid hnS
  have HES := Lib.hid heS
  unfold maxLen at hmS hdS
  clear hT hlt hkl hS hnS heS
  go_enter Try.func5, Try.ntmps5
  go_wp2_with fail
  refine (awake_any w).mono ?_
  rintro _ w1 ⟨rfl, zz⟩
  replace HT := Lib.hid (HT.out.later zz)
  replace HS := Lib.hid (HS.out.later zz)
  replace Z := Lib.hid (Z.out.trans (zz.mono Z.out.size))
  clear zz
  go_wp2_with fail
  refine (kfew w1 HT.out htl HKL.out HLT.out hfew).mono ?_
  rintro _ w2 ⟨rfl, ew⟩
  subst ew
  go_wp2_with fail
  refine (kmay HT.out HS.out SM.out HLT.out HNS.out (by omega) hmay).mono ?_
  rintro _ w2 ⟨rfl, zz⟩
  replace HT := Lib.hid (HT.out.later zz)
  replace HS := Lib.hid (HS.out.later zz)
  replace Z := Lib.hid (Z.out.trans (zz.mono Z.out.size))
  clear zz
  go_wp2_with fail
  refine (kfmay HT.out SM.out HLT.out HFM.out).mono ?_
  rintro _ w3 ⟨rfl, zz⟩
  replace HT := Lib.hid (HT.out.later zz)
  replace HS := Lib.hid (HS.out.later zz)
  replace Z := Lib.hid (Z.out.trans (zz.mono Z.out.size))
  clear zz
  go_wp2_with fail
  refine (kstart HT.out HS.out SM.out HLT.out HNS.out (by omega) G1.out (HM.out 0 0)).mono ?_
  rintro _ w4 ⟨X, cX, rfl, hX, _, _, zz⟩
  replace HT := Lib.hid (HT.out.later zz)
  replace HS := Lib.hid (HS.out.later zz)
  have HX := Lib.hid hX
  replace Z := Lib.hid (Z.out.trans (zz.mono Z.out.size))
  clear zz hX
  obtain ⟨bT, oT, KT, cT, rfl, hbT, t0, t1, hkd⟩ := HAT.out _ HT.out
  have HKD := Lib.hid hkd
  have T0 := Lib.hid t0
  have T1 := Lib.hid t1
  clear t0 t1 hkd
  go_wp2_with fail
  go_loopw [9, 10] (fun xv iv wr => ∃ (j : Nat) (X : Option Addr) (cX : Nat), xv = .slice X (nS + 1) cX ∧ iv = .int .i64 j ∧ j ≤ W ∧ Hid (Ir wr.heap.size wr X (lS ++ [((u : Int), (j : Int), (0 : Int))])) ∧ Hid (mayS T (lS ++ [((u : Int), (j : Int), (0 : Int))]) = true) ∧ Hid (Below w4.heap.size w4 wr)) (fun _ iv _ => W - (intOf iv).toNat)
  case atStart => exact ⟨0, X, cX, rfl, rfl, Nat.zero_le _, HX, G2, Lib.hid (Below.refl _ _)⟩
  case round =>
    obtain ⟨j, X1, cX1, rfl, rfl, hj, HX1, HMY, ZB⟩ := hrel
    have t0 := (ZB.out.cell (p := ⟨bT, oT + u * 2, none⟩) hbT).trans T0.out
    have t1 := (ZB.out.cell (p := ⟨bT, oT + u * 2 + 1, none⟩) hbT).trans T1.out
    by_cases hlt1 : j < W
    · have TK := Lib.hid (tick_S HMY.out (by rw [EW.out]; omega))
      go_wp2_with fail
      refine (knext (HT.out.later ZB.out) HX1.out SM.out HLT.out (HM.out _ _) (by omega) TK.out.1).mono ?_
      rintro _ wa ⟨rfl, za⟩
      have HX2 := Lib.hid (HX1.out.later za)
      replace ZB := Lib.hid (ZB.out.trans (za.mono ZB.out.size))
      clear za
      go_wp2_with fail
      refine (kdo (HT.out.later ZB.out) HX2.out SM.out HLT.out (HM.out _ _) (by omega) TK.out.2.1 (HM.out _ _)).mono ?_
      rintro _ wb ⟨X3, cX3, rfl, hX3, _, _, zb⟩
      have HX3 := Lib.hid hX3
      replace ZB := Lib.hid (ZB.out.trans (zb.mono ZB.out.size))
      clear zb hX3
      go_wp2
      go_roundw
      case rel => exact ⟨j + 1, X3, cX3, rfl, by go_num, by omega, HX3, Lib.hid TK.out.2.2, ZB⟩
      case measure => simp [intOf]; omega
    · obtain rfl : j = W := by omega
      obtain ⟨wo, hwo⟩ : ∃ wo, wo = wr := ⟨_, rfl⟩
      subst hwo
      go_wp2_with fail
      go_loopw [9, 11] (fun xv iv wr => ∃ (i : Nat) (X : Option Addr) (cX : Nat), xv = .slice X (nS + 1) cX ∧ iv = .int .i64 i ∧ i ≤ KL.length ∧ Hid (Ir wr.heap.size wr X (lS ++ [((u : Int), (j : Int), (i : Int))])) ∧ Hid (mayS T (lS ++ [((u : Int), (j : Int), (i : Int))]) = true) ∧ Hid (Below w4.heap.size w4 wr)) (fun _ iv _ => KL.length - (intOf iv).toNat)
      case atStart => exact ⟨0, X1, cX1, rfl, rfl, Nat.zero_le _, HX1, HMY, ZB⟩
      case round =>
        obtain ⟨i, X4, cX4, rfl, rfl, hi, HX4, HMZ, ZD⟩ := hrel
        have t0 := (ZD.out.cell (p := ⟨bT, oT + u * 2, none⟩) hbT).trans T0.out
        have t1 := (ZD.out.cell (p := ⟨bT, oT + u * 2 + 1, none⟩) hbT).trans T1.out
        by_cases hlt2 : i < KL.length
        · have TK := Lib.hid (spawn_S HMZ.out (by rw [EW.out]; omega) (by rw [EK.out]; omega))
          obtain ⟨bK, oK, hKT, hbK, r0⟩ := HKD.out.at hlt2
          have EV : Hid ((kdA T (u : Int)).getD (i : Int).toNat 0 = KL[i]) := Lib.hid (by rw [EK.out, Int.toNat_natCast, List.getD_eq_getElem?_getD, List.getElem?_eq_getElem hlt2]; rfl)
          have NX := Lib.hid TK.out.1
          rw [EV.out] at NX
          generalize KL[i] = v at *
          subst hKT
          have hae2 := ae_yes (a := 2) (b := v) (a' := 2) (b' := v) rfl
          go_upto_region 15 with fail
          have HK := Lib.hid (show ∀ x', Below wr.heap.size wr x' → (fun w' => w'.cell? ⟨bT, oT + u * 2 + 1, none⟩ = some (.slice (some ⟨bK, oK, none⟩) KL.length cT) ∧ w'.cell? ⟨bK, oK + i, none⟩ = some (.int .i64 v) ∧ Below wr.heap.size wr w') x' from fun x' hx => by
            exact ⟨(hx.cell (p := ⟨bT, oT + u * 2 + 1, none⟩) (Nat.lt_of_lt_of_le hbT ZD.out.size)).trans t1, (hx.cell (p := ⟨bK, oK + i, none⟩) (Nat.lt_of_lt_of_le hbK ZD.out.size)).trans ((ZD.out.cell (p := ⟨bK, oK + i, none⟩) hbK).trans r0), hx⟩)
          have hHeld0 := HK.out _ (Below.refl _ _)
          have ZC := Lib.hid (Below.refl wr.heap.size wr).drew
          refine wp_region_held_drew (S := fun w' => w'.cell? ⟨bT, oT + u * 2 + 1, none⟩ = some (.slice (some ⟨bK, oK, none⟩) KL.length cT) ∧ w'.cell? ⟨bK, oK + i, none⟩ = some (.int .i64 v) ∧ Below wr.heap.size wr w') (by kernel_rfl) (hd_drew HK.out (fun _ h => h.2.2) hHeld0) (fun hHeld => ?_)
          refine wpAnyH_take (i := 0) (oi := { dst := some 82, op := Go.Op.move (Go.Operand.tmp 0), type := 22, pos := "law.go:70", after := #[], guard := none }) (v := ?vzh1) rfl (by kernel_rfl) (by kernel_rfl) (by kernel_rfl) (fun _ _ _ h => h) (Or.inl ⟨by rfl, ?yzh1⟩) (by assumption) ?rzh1
          case yzh1 => (intro w hSw; (try dsimp only at hSw); go_simp; (try with_reducible rfl))
          (try simp only [Act.put, List.setIfInBounds_toArray, List.set_cons_zero, List.set_cons_succ])
          refine wpAnyH_take (i := 1) (oi := { dst := some 83, op := Go.Op.move (Go.Operand.tmp 9), type := 23, pos := "law.go:70", after := #[], guard := none }) (v := ?vzh2) rfl (by kernel_rfl) (by kernel_rfl) (by kernel_rfl) (fun _ _ _ h => h) (Or.inl ⟨by rfl, ?yzh2⟩) (by assumption) ?rzh2
          case yzh2 => (intro w hSw; (try dsimp only at hSw); go_simp; (try with_reducible rfl))
          (try simp only [Act.put, List.setIfInBounds_toArray, List.set_cons_zero, List.set_cons_succ])
          refine wpAnyH_take (i := 3) (oi := { dst := some 85, op := Go.Op.move (Go.Operand.tmp 0), type := 22, pos := "law.go:70", after := #[], guard := none }) (v := ?vzh3) rfl (by kernel_rfl) (by kernel_rfl) (by kernel_rfl) (fun _ _ _ h => h) (Or.inl ⟨by rfl, ?yzh3⟩) (by assumption) ?rzh3
          case yzh3 => (intro w hSw; (try dsimp only at hSw); go_simp; (try with_reducible rfl))
          (try simp only [Act.put, List.setIfInBounds_toArray, List.set_cons_zero, List.set_cons_succ])
          refine wpAnyH_take (i := 4) (oi := { dst := some 86, op := Go.Op.move (Go.Operand.tmp 2), type := 3, pos := "law.go:70", after := #[], guard := none }) (v := ?vzh4) rfl (by kernel_rfl) (by kernel_rfl) (by kernel_rfl) (fun _ _ _ h => h) (Or.inl ⟨by rfl, ?yzh4⟩) (by assumption) ?rzh4
          case yzh4 => (intro w hSw; (try dsimp only at hSw); go_simp; (try with_reducible rfl))
          (try simp only [Act.put, List.setIfInBounds_toArray, List.set_cons_zero, List.set_cons_succ])
          refine wpAnyH_take (i := 5) (oi := { dst := some 87, op := Go.Op.indexAddr 22 (Go.Operand.tmp 85) (Go.Operand.tmp 86), type := 0, pos := "law.go:70", after := #[{ on := 3, ground := Go.Ground.data }, { on := 4, ground := Go.Ground.data }], guard := none }) (v := ?vzh5) rfl (by kernel_rfl) (by kernel_rfl) (by kernel_rfl) (fun _ _ _ h => h) (Or.inl ⟨by rfl, ?yzh5⟩) (by assumption) ?rzh5
          case yzh5 => (intro w hSw; (try dsimp only at hSw); go_simp; (try with_reducible rfl))
          (try simp only [Act.put, List.setIfInBounds_toArray, List.set_cons_zero, List.set_cons_succ])
          refine wpAnyH_take (i := 6) (oi := { dst := some 88, op := Go.Op.fieldAddr 37 (Go.Operand.tmp 87) 1, type := 0, pos := "law.go:70", after := #[{ on := 5, ground := Go.Ground.data }], guard := none }) (v := ?vzh6) rfl (by kernel_rfl) (by kernel_rfl) (by kernel_rfl) (fun _ _ _ h => h) (Or.inl ⟨by rfl, ?yzh6⟩) (by assumption) ?rzh6
          case yzh6 => (intro w hSw; (try dsimp only at hSw); go_simp; (try with_reducible rfl))
          (try simp only [Act.put, List.setIfInBounds_toArray, List.set_cons_zero, List.set_cons_succ])
          refine wpAnyH_take (i := 7) (oi := { dst := some 89, op := Go.Op.load 35 (Go.Operand.tmp 88), type := 35, pos := "law.go:70", after := #[{ on := 6, ground := Go.Ground.data }], guard := none }) (v := ?vzh7) rfl (by kernel_rfl) (by kernel_rfl) (by kernel_rfl) (fun _ _ _ h => h) (Or.inl ⟨by rfl, ?yzh7⟩) (by assumption) ?rzh7
          case yzh7 => (intro w hSw; (try dsimp only at hSw); go_simp; (try with_reducible rfl))
          (try simp only [Act.put, List.setIfInBounds_toArray, List.set_cons_zero, List.set_cons_succ])
          refine wpAnyH_take (i := 8) (oi := { dst := some 90, op := Go.Op.move (Go.Operand.tmp 11), type := 3, pos := "law.go:70", after := #[], guard := none }) (v := ?vzh8) rfl (by kernel_rfl) (by kernel_rfl) (by kernel_rfl) (fun _ _ _ h => h) (Or.inl ⟨by rfl, ?yzh8⟩) (by assumption) ?rzh8
          case yzh8 => (intro w hSw; (try dsimp only at hSw); go_simp; (try with_reducible rfl))
          (try simp only [Act.put, List.setIfInBounds_toArray, List.set_cons_zero, List.set_cons_succ])
          refine wpAnyH_take (i := 9) (oi := { dst := some 91, op := Go.Op.indexAddr 35 (Go.Operand.tmp 89) (Go.Operand.tmp 90), type := 0, pos := "law.go:70", after := #[{ on := 7, ground := Go.Ground.data }, { on := 8, ground := Go.Ground.data }], guard := none }) (v := ?vzh9) rfl (by kernel_rfl) (by kernel_rfl) (by kernel_rfl) (fun _ _ _ h => h) (Or.inl ⟨by rfl, ?yzh9⟩) (by assumption) ?rzh9
          case yzh9 => (intro w hSw; (try dsimp only at hSw); go_simp; (try with_reducible rfl))
          (try simp only [Act.put, List.setIfInBounds_toArray, List.set_cons_zero, List.set_cons_succ])
          refine wpAnyH_take (i := 10) (oi := { dst := some 92, op := Go.Op.load 3 (Go.Operand.tmp 91), type := 3, pos := "law.go:70", after := #[{ on := 9, ground := Go.Ground.data }], guard := none }) (v := ?vzh10) rfl (by kernel_rfl) (by kernel_rfl) (by kernel_rfl) (fun _ _ _ h => h) (Or.inl ⟨by rfl, ?yzh10⟩) (by assumption) ?rzh10
          case yzh10 => (intro w hSw; (try dsimp only at hSw); go_simp; (try with_reducible rfl))
          (try simp only [Act.put, List.setIfInBounds_toArray, List.set_cons_zero, List.set_cons_succ])
          refine wpAnyH_take (i := 11) (oi := { dst := some 93, op := Go.Op.build 31 #[(0, Go.Operand.const (Go.Value.int Go.IntKind.i64 2)), (1, Go.Operand.tmp 92)], type := 31, pos := "law.go:70", after := #[{ on := 10, ground := Go.Ground.data }], guard := none }) (v := ?vzh11) rfl (by kernel_rfl) (by kernel_rfl) (by kernel_rfl) (fun _ _ _ h => h) (Or.inl ⟨by rfl, ?yzh11⟩) (by assumption) ?rzh11
          case yzh11 => (intro w hSw; (try dsimp only at hSw); go_simp; (try with_reducible rfl))
          (try simp only [Act.put, List.setIfInBounds_toArray, List.set_cons_zero, List.set_cons_succ])
          refine wpAnyH_ready (rs := [2]) (by kernel_rfl) (by simp) ?_
          refine (AllReadyH.cons (o := { dst := some 84, op := Go.Op.call { callee := Go.Callee.value (Go.Operand.func 17), args := #[Go.Operand.tmp 82, Go.Operand.tmp 83], argTypes := #[22, 23] }, type := 31, pos := "law.go:70", after := #[{ on := 0, ground := Go.Ground.data }, { on := 1, ground := Go.Ground.data }], guard := none }) rfl (fun K hK => ?_) AllReadyH.nil)
          go_simp
          refine (knext (HT.out.later (ZD.out.trans (ZC.out.mono ZD.out.size))) (HX4.out.later ZC.out) SM.out HLT.out (HM.out _ _) (by omega) NX.out).mono ?_
          rintro e wz ⟨rfl, zb⟩
          go_wp2_with fail
          replace ZC := Lib.hid (keep_call (w2 := wr) zb ZC.out)
          clear zb
          refine hK.out _ _ (HK.out _ ZC.out) (fun hHeld2 => ?_)
          clear hK K hHeld
          have hHeld := hHeld2
          clear hHeld2
          (try simp only [Act.put, List.setIfInBounds_toArray, List.set_cons_zero, List.set_cons_succ])
          refine wpAnyH_take (i := 12) (oi := { dst := some 94, op := Go.Op.binOp Go.BinOp.neq 31 (Go.Operand.tmp 84) (Go.Operand.tmp 93) 31, type := 4, pos := "law.go:70", after := #[{ on := 2, ground := Go.Ground.data }, { on := 11, ground := Go.Ground.data }], guard := none }) (v := ?vzh12) rfl (by kernel_rfl) (by kernel_rfl) (by kernel_rfl) (fun _ _ _ h => h) (Or.inl ⟨by rfl, ?yzh12⟩) (by assumption) ?rzh12
          case yzh12 => (intro w hSw; (try dsimp only at hSw); go_simp; (try with_reducible rfl))
          (try simp only [Act.put, List.setIfInBounds_toArray, List.set_cons_zero, List.set_cons_succ])
          refine wpAnyH_done (by kernel_rfl) ?_ _
          go_wp2_with fail
          replace ZD := Lib.hid (ZD.out.trans (ZC.out.mono ZD.out.size))
          refine (kdo (HT.out.later ZD.out) (HX4.out.later ZC.out) SM.out HLT.out (HM.out _ _) (by omega) TK.out.2.1 (HM.out _ _)).mono ?_
          rintro _ wb ⟨X5, cX5, rfl, hX5, _, _, zb⟩
          have HX5 := Lib.hid hX5
          replace ZD := Lib.hid (ZD.out.trans (zb.mono ZD.out.size))
          clear zb hX5 hHeld hHeld0
          go_wp2
          go_roundw
          case rel => exact ⟨i + 1, X5, cX5, rfl, by go_num, by omega, HX5, Lib.hid TK.out.2.2, ZD⟩
          case measure => simp [intOf]; omega
        · obtain rfl : i = KL.length := by omega
          have DN := Lib.hid (done_S HMZ.out (by rw [EW.out]; omega) (by rw [EK.out]; omega))
          generalize KL.length = L at *
          go_wp2_with fail
          refine (knext (HT.out.later ZD.out) HX4.out SM.out HLT.out (HM.out _ _) (by omega) DN.out.1).mono ?_
          rintro _ wa ⟨rfl, za⟩
          have za2 := za.trans ((bel_new wa (.cells #[.int .i64 3, .int .i64 u] 31)).mono za.size)
          have B1 := Lib.hid (Ab.new wa 3 u)
          have HX5 := Lib.hid (HX4.out.later za2)
          replace ZD := Lib.hid (ZD.out.trans (za2.mono ZD.out.size))
          clear za za2
          go_upto_region 19 with fail
          generalize wa.alloc (.cells #[.int .i64 3, .int .i64 u] 31) = wb at *
          generalize wa.heap.size = gb at *
          go_wp2_with fail
          refine (kdo (HT.out.later ZD.out) HX5.out SM.out HLT.out (HM.out _ _) (by omega) DN.out.2 HNS.out).mono ?_
          rintro _ wd ⟨X6, cX6, rfl, hX6, _, _, zd⟩
          have HX6 := Lib.hid hX6
          replace B1 := Lib.hid (B1.out.below zd B1.out.lt)
          replace ZD := Lib.hid (ZD.out.trans (zd.mono ZD.out.size))
          clear zd hX6
          go_wp2_with fail
          refine (krsame HX6.out (HS.out.later ZD.out) HNS.out HNS.out (by omega) (q := true) (by simp)).mono ?_
          rintro _ we ⟨rfl, ze⟩
          replace B1 := Lib.hid (B1.out.below ze B1.out.lt)
          replace ZD := Lib.hid (ZD.out.trans (ze.mono ZD.out.size))
          clear ze
          obtain ⟨b0, b1, _, _⟩ := B1.out.cells
          go_wp2
          go_ret
          exact ⟨rfl, Z.out.trans (ZD.out.mono Z.out.size)⟩
theorem spawnsl_any (A S : Option Addr) (c lt cS nS : Nat) (T : List Tsk) (lS : List Itm) (k : Int) (w : World) (hT : Tk w.heap.size w A T) (htl : T.length ≤ maxLen) (hkl : ∀ x ∈ T, x.2.length ≤ maxLen) (hlt : T.length = lt) (hS : Ir w.heap.size w S lS) (hnS : lS.length = nS) (hmS : nS ≤ maxLen) (hcS : nS ≤ cS) (hdS : cS ≤ maxLen) (heS : S = none → cS = 0) : Tells 5 #[.slice A lt c, .slice S nS cS, .int .i64 k] w (.bool true) := by
  cases hfew : few T
  · exact spawnsl_few A S c lt cS nS T lS k w hT htl hkl hlt hS hnS hmS hcS hdS heS hfew
  by_cases hlS : 40 < nS
  · exact spawnsl_longS A S c lt cS nS T lS k w hT htl hkl hlt hS hnS hmS hcS hdS heS hfew hlS
  have hlS1 : nS ≤ 40 := by omega
  cases hmay : mayS T lS
  · exact spawnsl_no A S c lt cS nS T lS k w hT htl hkl hlt hS hnS hmS hcS hdS heS hfew hlS1 hmay
  by_cases hk0 : k < 0
  · exact spawnsl_outa A S c lt cS nS T lS k w hT htl hkl hlt hS hnS hmS hcS hdS heS hfew hlS1 hmay hk0
  by_cases hk : (lt : Int) ≤ k
  · exact spawnsl_outb A S c lt cS nS T lS k w hT htl hkl hlt hS hnS hmS hcS hdS heS hfew hlS1 hmay hk hk0
  · exact spawnsl_in A S c lt cS nS T lS k w hT htl hkl hlt hS hnS hmS hcS hdS heS hfew hlS1 hmay (by omega) (by omega)
end Go.Proofs.Ytobcedlkmnmikaa.Fo
