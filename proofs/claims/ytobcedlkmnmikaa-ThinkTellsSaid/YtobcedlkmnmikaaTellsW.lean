/- The walk of ThinkTells. -/
import Derived.Test.YtobcedlkmnmikaaThW
import Derived.Test.YtobcedlkmnmikaaItQ
import Derived.Test.YtobcedlkmnmikaaThV
namespace Go.Proofs.Ytobcedlkmnmikaa.Fo
open Go.RowKit Go.Deep
set_option linter.unusedVariables false
attribute [local go_sem ↓] eql_act neq_act guard_act eql_it neq_it guard_it
attribute [local go_sem] field_kind
set_option maxRecDepth 100000 in
set_option maxHeartbeats 4000000 in
theorem tells_few (A S R : Option Addr) (c lt cS nS cR nR : Nat) (T : List Tsk) (lS lR : List Itm) (k : Int) (w : World) (hT : Tk w.heap.size w A T) (htl : T.length ≤ maxLen) (hkl : ∀ x ∈ T, x.2.length ≤ maxLen) (hlt : T.length = lt) (hS : Ir w.heap.size w S lS) (hnS : lS.length = nS) (hmS : nS ≤ maxLen) (hcS : nS ≤ cS) (hdS : cS ≤ maxLen) (heS : S = none → cS = 0) (hR : Ir w.heap.size w R lR) (hnR : lR.length = nR) (hmR : nR ≤ maxLen) (hcR : nR ≤ cR) (hdR : cR ≤ maxLen) (heR : R = none → cR = 0) (hfew : few T = false) : Tells 3 #[.slice A lt c, .slice S nS cS, .slice R nR cR, .int .i64 k] w (.bool true) := by
  have HT := Lib.hid hT
  have HLT := Lib.hid hlt
  have HKL := Lib.hid hkl
  have Z := Lib.hid (Below.refl w.heap.size w)
  have HS := Lib.hid hS
  have HNS := Lib.hid hnS
  have HES := Lib.hid heS
  have HR := Lib.hid hR
  have HNR := Lib.hid hnR
  have HER := Lib.hid heR
  unfold maxLen at hmS hdS hmR hdR
  clear hT hlt hkl hS hnS heS hR hnR heR
  go_enter Try.func3, Try.ntmps3
  go_wp2_with fail
  refine (awake_any w).mono ?_
  rintro _ w1 ⟨rfl, zz⟩
  replace HT := Lib.hid (HT.out.later zz)
  replace HS := Lib.hid (HS.out.later zz)
  replace HR := Lib.hid (HR.out.later zz)
  replace Z := Lib.hid (Z.out.trans (zz.mono Z.out.size))
  clear zz
  go_wp2_with fail
  refine (kfew w1 HT.out htl HKL.out HLT.out hfew).mono ?_
  rintro _ w2 ⟨rfl, ew⟩
  subst ew
  go_wp2
  go_ret
  exact ⟨rfl, Z.out⟩
set_option maxRecDepth 100000 in
set_option maxHeartbeats 4000000 in
theorem tells_longS (A S R : Option Addr) (c lt cS nS cR nR : Nat) (T : List Tsk) (lS lR : List Itm) (k : Int) (w : World) (hT : Tk w.heap.size w A T) (htl : T.length ≤ maxLen) (hkl : ∀ x ∈ T, x.2.length ≤ maxLen) (hlt : T.length = lt) (hS : Ir w.heap.size w S lS) (hnS : lS.length = nS) (hmS : nS ≤ maxLen) (hcS : nS ≤ cS) (hdS : cS ≤ maxLen) (heS : S = none → cS = 0) (hR : Ir w.heap.size w R lR) (hnR : lR.length = nR) (hmR : nR ≤ maxLen) (hcR : nR ≤ cR) (hdR : cR ≤ maxLen) (heR : R = none → cR = 0) (hfew : few T = true) (hlS : 40 < nS) : Tells 3 #[.slice A lt c, .slice S nS cS, .slice R nR cR, .int .i64 k] w (.bool true) := by
  have HT := Lib.hid hT
  have HLT := Lib.hid hlt
  have HKL := Lib.hid hkl
  have Z := Lib.hid (Below.refl w.heap.size w)
  have HS := Lib.hid hS
  have HNS := Lib.hid hnS
  have HES := Lib.hid heS
  have HR := Lib.hid hR
  have HNR := Lib.hid hnR
  have HER := Lib.hid heR
  unfold maxLen at hmS hdS hmR hdR
  clear hT hlt hkl hS hnS heS hR hnR heR
  go_enter Try.func3, Try.ntmps3
  go_wp2_with fail
  refine (awake_any w).mono ?_
  rintro _ w1 ⟨rfl, zz⟩
  replace HT := Lib.hid (HT.out.later zz)
  replace HS := Lib.hid (HS.out.later zz)
  replace HR := Lib.hid (HR.out.later zz)
  replace Z := Lib.hid (Z.out.trans (zz.mono Z.out.size))
  clear zz
  go_wp2_with fail
  refine (kfew w1 HT.out htl HKL.out HLT.out hfew).mono ?_
  rintro _ w2 ⟨rfl, ew⟩
  subst ew
  go_wp2
  go_ret
  exact ⟨rfl, Z.out⟩
set_option maxRecDepth 100000 in
set_option maxHeartbeats 4000000 in
theorem tells_longR (A S R : Option Addr) (c lt cS nS cR nR : Nat) (T : List Tsk) (lS lR : List Itm) (k : Int) (w : World) (hT : Tk w.heap.size w A T) (htl : T.length ≤ maxLen) (hkl : ∀ x ∈ T, x.2.length ≤ maxLen) (hlt : T.length = lt) (hS : Ir w.heap.size w S lS) (hnS : lS.length = nS) (hmS : nS ≤ maxLen) (hcS : nS ≤ cS) (hdS : cS ≤ maxLen) (heS : S = none → cS = 0) (hR : Ir w.heap.size w R lR) (hnR : lR.length = nR) (hmR : nR ≤ maxLen) (hcR : nR ≤ cR) (hdR : cR ≤ maxLen) (heR : R = none → cR = 0) (hfew : few T = true) (hlS : nS ≤ 40) (hlR : 40 < nR) : Tells 3 #[.slice A lt c, .slice S nS cS, .slice R nR cR, .int .i64 k] w (.bool true) := by
  have hlS1 : ¬ 40 < nS := by omega
  have HT := Lib.hid hT
  have HLT := Lib.hid hlt
  have HKL := Lib.hid hkl
  have Z := Lib.hid (Below.refl w.heap.size w)
  have HS := Lib.hid hS
  have HNS := Lib.hid hnS
  have HES := Lib.hid heS
  have HR := Lib.hid hR
  have HNR := Lib.hid hnR
  have HER := Lib.hid heR
  unfold maxLen at hmS hdS hmR hdR
  clear hT hlt hkl hS hnS heS hR hnR heR
  go_enter Try.func3, Try.ntmps3
  go_wp2_with fail
  refine (awake_any w).mono ?_
  rintro _ w1 ⟨rfl, zz⟩
  replace HT := Lib.hid (HT.out.later zz)
  replace HS := Lib.hid (HS.out.later zz)
  replace HR := Lib.hid (HR.out.later zz)
  replace Z := Lib.hid (Z.out.trans (zz.mono Z.out.size))
  clear zz
  go_wp2_with fail
  refine (kfew w1 HT.out htl HKL.out HLT.out hfew).mono ?_
  rintro _ w2 ⟨rfl, ew⟩
  subst ew
  go_wp2
  go_ret
  exact ⟨rfl, Z.out⟩
set_option maxRecDepth 100000 in
set_option maxHeartbeats 4000000 in
theorem tells_all (A S R : Option Addr) (c lt cS nS cR nR : Nat) (T : List Tsk) (lS lR : List Itm) (k : Int) (w : World) (hT : Tk w.heap.size w A T) (htl : T.length ≤ maxLen) (hkl : ∀ x ∈ T, x.2.length ≤ maxLen) (hlt : T.length = lt) (hS : Ir w.heap.size w S lS) (hnS : lS.length = nS) (hmS : nS ≤ maxLen) (hcS : nS ≤ cS) (hdS : cS ≤ maxLen) (heS : S = none → cS = 0) (hR : Ir w.heap.size w R lR) (hnR : lR.length = nR) (hmR : nR ≤ maxLen) (hcR : nR ≤ cR) (hdR : cR ≤ maxLen) (heR : R = none → cR = 0) (hfew : few T = true) (hlS : nS ≤ 40) (hlR : nR ≤ 40) : Tells 3 #[.slice A lt c, .slice S nS cS, .slice R nR cR, .int .i64 k] w (.bool true) := by
  have SM := Lib.hid (few_sm hfew)
  have hlS1 : ¬ 40 < nS := by omega
  have hlR1 : ¬ 40 < nR := by omega
  obtain ⟨q, hq⟩ : ∃ z, mayS T lS = z := ⟨_, rfl⟩
  have HQq := Lib.hid hq
  clear hq
  obtain ⟨D, hD⟩ : ∃ z, doS T lS = z := ⟨_, rfl⟩
  have HDq := Lib.hid hD
  clear hD
  obtain ⟨E, hE⟩ : ∃ z, startS T lS k = z := ⟨_, rfl⟩
  have HEq := Lib.hid hE
  clear hE
  obtain ⟨y, hy⟩ : ∃ z, leftS T lS = z := ⟨_, rfl⟩
  have HYq := Lib.hid hy
  clear hy
  obtain ⟨b, hb⟩ : ∃ z, decide (lS = lR) = z := ⟨_, rfl⟩
  have HBq := Lib.hid hb
  clear hb
  obtain ⟨⟨u, v⟩, huv⟩ : ∃ z, nextS T lS = z := ⟨_, rfl⟩
  have HUV := Lib.hid huv
  clear huv
  obtain ⟨mD, hmD⟩ : ∃ z, D.length = z := ⟨_, rfl⟩
  have HMD := Lib.hid hmD
  obtain ⟨mE, hmE⟩ : ∃ z, E.length = z := ⟨_, rfl⟩
  have HME := Lib.hid hmE
  have hmD1 : mD ≤ 1000 := by
    rw [← hmD, ← HDq.out]
    rcases Classical.em (lS = []) with rfl | e2
    · rw [doS_nil]; simp
    · cases hm : mayS T lS
      · rw [doS_no hm]; omega
      · have := (less_S hm e2).2.2.1
        omega
  have hmE1 : mE ≤ 1000 := by
    rw [← hmE, ← HEq.out]
    unfold startS
    split
    · rw [List.length_append, List.length_singleton]; omega
    · omega
  clear hmD hmE
  have hae := ae_yes (a := u) (b := v) (a' := u) (b' := v) rfl
  have HT := Lib.hid hT
  have HLT := Lib.hid hlt
  have HKL := Lib.hid hkl
  have Z := Lib.hid (Below.refl w.heap.size w)
  have HS := Lib.hid hS
  have HNS := Lib.hid hnS
  have HES := Lib.hid heS
  have HR := Lib.hid hR
  have HNR := Lib.hid hnR
  have HER := Lib.hid heR
  unfold maxLen at hmS hdS hmR hdR
  clear hT hlt hkl hS hnS heS hR hnR heR
  go_enter Try.func3, Try.ntmps3
  go_wp2_with fail
  refine (awake_any w).mono ?_
  rintro _ w1 ⟨rfl, zz⟩
  replace HT := Lib.hid (HT.out.later zz)
  replace HS := Lib.hid (HS.out.later zz)
  replace HR := Lib.hid (HR.out.later zz)
  replace Z := Lib.hid (Z.out.trans (zz.mono Z.out.size))
  clear zz
  go_wp2_with fail
  refine (kfew w1 HT.out htl HKL.out HLT.out hfew).mono ?_
  rintro _ w2 ⟨rfl, ew⟩
  subst ew
  go_wp2_with fail
  refine (kdo HT.out HS.out SM.out HLT.out HNS.out (by omega) HDq.out HMD.out).mono ?_
  rintro _ w2 ⟨X, cX, rfl, hX, _, _, zz⟩
  replace HT := Lib.hid (HT.out.later zz)
  replace HS := Lib.hid (HS.out.later zz)
  replace HR := Lib.hid (HR.out.later zz)
  have HX := Lib.hid hX
  replace Z := Lib.hid (Z.out.trans (zz.mono Z.out.size))
  clear zz hX
  go_wp2_with fail
  refine (krdo HT.out HS.out SM.out HLT.out HNS.out (by omega) hcS HDq.out HMD.out).mono ?_
  rintro _ w3 ⟨Y, cY, rfl, hY, _, zz⟩
  replace HT := Lib.hid (HT.out.later zz)
  replace HS := Lib.hid (HS.out.later zz)
  replace HR := Lib.hid (HR.out.later zz)
  replace HX := Lib.hid (HX.out.later zz)
  have HY := Lib.hid hY
  replace Z := Lib.hid (Z.out.trans (zz.mono Z.out.size))
  clear zz hY
  go_wp2_with fail
  refine (krsame HX.out HY.out HMD.out HMD.out hmD1 (q := true) (by simp)).mono ?_
  rintro _ w4 ⟨rfl, zz⟩
  replace HT := Lib.hid (HT.out.later zz)
  replace HS := Lib.hid (HS.out.later zz)
  replace HR := Lib.hid (HR.out.later zz)
  replace HX := Lib.hid (HX.out.later zz)
  replace HY := Lib.hid (HY.out.later zz)
  replace Z := Lib.hid (Z.out.trans (zz.mono Z.out.size))
  clear zz
  go_wp2_with fail
  refine (kstart HT.out HS.out SM.out HLT.out HNS.out (by omega) HEq.out HME.out).mono ?_
  rintro _ w5 ⟨X2, cX2, rfl, hX, _, _, zz⟩
  replace HT := Lib.hid (HT.out.later zz)
  replace HS := Lib.hid (HS.out.later zz)
  replace HR := Lib.hid (HR.out.later zz)
  replace HX := Lib.hid (HX.out.later zz)
  replace HY := Lib.hid (HY.out.later zz)
  have HX2 := Lib.hid hX
  replace Z := Lib.hid (Z.out.trans (zz.mono Z.out.size))
  clear zz hX
  go_wp2_with fail
  refine (krstart HT.out HS.out SM.out HLT.out HNS.out (by omega) hcS HEq.out HME.out).mono ?_
  rintro _ w6 ⟨Y2, cY2, rfl, hY, _, zz⟩
  replace HT := Lib.hid (HT.out.later zz)
  replace HS := Lib.hid (HS.out.later zz)
  replace HR := Lib.hid (HR.out.later zz)
  replace HX := Lib.hid (HX.out.later zz)
  replace HY := Lib.hid (HY.out.later zz)
  replace HX2 := Lib.hid (HX2.out.later zz)
  have HY2 := Lib.hid hY
  replace Z := Lib.hid (Z.out.trans (zz.mono Z.out.size))
  clear zz hY
  go_wp2_with fail
  refine (krsame HX2.out HY2.out HME.out HME.out hmE1 (q := true) (by simp)).mono ?_
  rintro _ w7 ⟨rfl, zz⟩
  replace HT := Lib.hid (HT.out.later zz)
  replace HS := Lib.hid (HS.out.later zz)
  replace HR := Lib.hid (HR.out.later zz)
  replace HX := Lib.hid (HX.out.later zz)
  replace HY := Lib.hid (HY.out.later zz)
  replace HX2 := Lib.hid (HX2.out.later zz)
  replace HY2 := Lib.hid (HY2.out.later zz)
  replace Z := Lib.hid (Z.out.trans (zz.mono Z.out.size))
  clear zz
  go_wp2_with fail
  refine (krmay HT.out HS.out SM.out HLT.out HNS.out (by omega) HQq.out).mono ?_
  rintro _ w8 ⟨rfl, zz⟩
  replace HT := Lib.hid (HT.out.later zz)
  replace HS := Lib.hid (HS.out.later zz)
  replace HR := Lib.hid (HR.out.later zz)
  replace HX := Lib.hid (HX.out.later zz)
  replace HY := Lib.hid (HY.out.later zz)
  replace HX2 := Lib.hid (HX2.out.later zz)
  replace HY2 := Lib.hid (HY2.out.later zz)
  replace Z := Lib.hid (Z.out.trans (zz.mono Z.out.size))
  clear zz
  go_wp2_with fail
  refine (krsame HS.out HR.out HNS.out HNR.out (by omega) HBq.out).mono ?_
  rintro _ w9 ⟨rfl, zz⟩
  replace HT := Lib.hid (HT.out.later zz)
  replace HS := Lib.hid (HS.out.later zz)
  replace HR := Lib.hid (HR.out.later zz)
  replace HX := Lib.hid (HX.out.later zz)
  replace HY := Lib.hid (HY.out.later zz)
  replace HX2 := Lib.hid (HX2.out.later zz)
  replace HY2 := Lib.hid (HY2.out.later zz)
  replace Z := Lib.hid (Z.out.trans (zz.mono Z.out.size))
  clear zz
  go_wp2_with fail
  refine (knext HT.out HS.out SM.out HLT.out HNS.out (by omega) HUV.out).mono ?_
  rintro _ w10 ⟨rfl, zz⟩
  replace HT := Lib.hid (HT.out.later zz)
  replace HS := Lib.hid (HS.out.later zz)
  replace HR := Lib.hid (HR.out.later zz)
  replace HX := Lib.hid (HX.out.later zz)
  replace HY := Lib.hid (HY.out.later zz)
  replace HX2 := Lib.hid (HX2.out.later zz)
  replace HY2 := Lib.hid (HY2.out.later zz)
  replace Z := Lib.hid (Z.out.trans (zz.mono Z.out.size))
  clear zz
  go_wp2_with fail
  refine (krnext HT.out HS.out SM.out HLT.out HNS.out (by omega) HUV.out).mono ?_
  rintro _ w11 ⟨rfl, zz⟩
  replace HT := Lib.hid (HT.out.later zz)
  replace HS := Lib.hid (HS.out.later zz)
  replace HR := Lib.hid (HR.out.later zz)
  replace HX := Lib.hid (HX.out.later zz)
  replace HY := Lib.hid (HY.out.later zz)
  replace HX2 := Lib.hid (HX2.out.later zz)
  replace HY2 := Lib.hid (HY2.out.later zz)
  replace Z := Lib.hid (Z.out.trans (zz.mono Z.out.size))
  clear zz
  go_wp2_with fail
  refine (kleft HT.out HS.out SM.out HLT.out HNS.out (by omega) HYq.out).mono ?_
  rintro _ w12 ⟨rfl, zz⟩
  replace HT := Lib.hid (HT.out.later zz)
  replace HS := Lib.hid (HS.out.later zz)
  replace HR := Lib.hid (HR.out.later zz)
  replace HX := Lib.hid (HX.out.later zz)
  replace HY := Lib.hid (HY.out.later zz)
  replace HX2 := Lib.hid (HX2.out.later zz)
  replace HY2 := Lib.hid (HY2.out.later zz)
  replace Z := Lib.hid (Z.out.trans (zz.mono Z.out.size))
  clear zz
  go_wp2_with fail
  refine (krleft HT.out HS.out SM.out HLT.out HNS.out (by omega) hcS HYq.out).mono ?_
  rintro _ w13 ⟨rfl, zz⟩
  replace HT := Lib.hid (HT.out.later zz)
  replace HS := Lib.hid (HS.out.later zz)
  replace HR := Lib.hid (HR.out.later zz)
  replace HX := Lib.hid (HX.out.later zz)
  replace HY := Lib.hid (HY.out.later zz)
  replace HX2 := Lib.hid (HX2.out.later zz)
  replace HY2 := Lib.hid (HY2.out.later zz)
  replace Z := Lib.hid (Z.out.trans (zz.mono Z.out.size))
  clear zz
  go_wp2_with fail
  refine (kmay HT.out HS.out SM.out HLT.out HNS.out (by omega) HQq.out).mono ?_
  rintro _ w14 ⟨rfl, zz⟩
  replace HT := Lib.hid (HT.out.later zz)
  replace HS := Lib.hid (HS.out.later zz)
  replace HR := Lib.hid (HR.out.later zz)
  replace HX := Lib.hid (HX.out.later zz)
  replace HY := Lib.hid (HY.out.later zz)
  replace HX2 := Lib.hid (HX2.out.later zz)
  replace HY2 := Lib.hid (HY2.out.later zz)
  replace Z := Lib.hid (Z.out.trans (zz.mono Z.out.size))
  clear zz
  go_wp2_with fail
  refine (ksame HS.out HR.out HNS.out HNR.out (by omega) HBq.out).mono ?_
  rintro _ w15 ⟨rfl, zz⟩
  replace HT := Lib.hid (HT.out.later zz)
  replace HS := Lib.hid (HS.out.later zz)
  replace HR := Lib.hid (HR.out.later zz)
  replace HX := Lib.hid (HX.out.later zz)
  replace HY := Lib.hid (HY.out.later zz)
  replace HX2 := Lib.hid (HX2.out.later zz)
  replace HY2 := Lib.hid (HY2.out.later zz)
  replace Z := Lib.hid (Z.out.trans (zz.mono Z.out.size))
  clear zz
  go_wp2
  go_ret
  exact ⟨by simp, Z.out⟩
theorem tells_any (A S R : Option Addr) (c lt cS nS cR nR : Nat) (T : List Tsk) (lS lR : List Itm) (k : Int) (w : World) (hT : Tk w.heap.size w A T) (htl : T.length ≤ maxLen) (hkl : ∀ x ∈ T, x.2.length ≤ maxLen) (hlt : T.length = lt) (hS : Ir w.heap.size w S lS) (hnS : lS.length = nS) (hmS : nS ≤ maxLen) (hcS : nS ≤ cS) (hdS : cS ≤ maxLen) (heS : S = none → cS = 0) (hR : Ir w.heap.size w R lR) (hnR : lR.length = nR) (hmR : nR ≤ maxLen) (hcR : nR ≤ cR) (hdR : cR ≤ maxLen) (heR : R = none → cR = 0) : Tells 3 #[.slice A lt c, .slice S nS cS, .slice R nR cR, .int .i64 k] w (.bool true) := by
  cases hfew : few T
  · exact tells_few A S R c lt cS nS cR nR T lS lR k w hT htl hkl hlt hS hnS hmS hcS hdS heS hR hnR hmR hcR hdR heR hfew
  by_cases hlS : 40 < nS
  · exact tells_longS A S R c lt cS nS cR nR T lS lR k w hT htl hkl hlt hS hnS hmS hcS hdS heS hR hnR hmR hcR hdR heR hfew hlS
  by_cases hlR : 40 < nR
  · exact tells_longR A S R c lt cS nS cR nR T lS lR k w hT htl hkl hlt hS hnS hmS hcS hdS heS hR hnR hmR hcR hdR heR hfew (by omega) hlR
  exact tells_all A S R c lt cS nS cR nR T lS lR k w hT htl hkl hlt hS hnS hmS hcS hdS heS hR hnR hmR hcR hdR heR hfew (by omega) (by omega)
end Go.Proofs.Ytobcedlkmnmikaa.Fo
