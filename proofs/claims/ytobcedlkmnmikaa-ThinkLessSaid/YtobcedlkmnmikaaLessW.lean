/- The walk of ThinkLess. -/
import Derived.Test.YtobcedlkmnmikaaThW
import Derived.Test.YtobcedlkmnmikaaItQ
namespace Go.Proofs.Ytobcedlkmnmikaa.Fo
open Go.RowKit Go.Deep
set_option linter.unusedVariables false
attribute [local go_sem ↓] eql_act neq_act guard_act eql_it neq_it guard_it
attribute [local go_sem] field_kind
set_option maxRecDepth 100000 in
set_option maxHeartbeats 4000000 in
theorem less_few (A S : Option Addr) (c lt cS nS : Nat) (T : List Tsk) (lS : List Itm) (w : World) (hT : Tk w.heap.size w A T) (htl : T.length ≤ maxLen) (hkl : ∀ x ∈ T, x.2.length ≤ maxLen) (hlt : T.length = lt) (hS : Ir w.heap.size w S lS) (hnS : lS.length = nS) (hmS : nS ≤ maxLen) (hcS : nS ≤ cS) (hdS : cS ≤ maxLen) (heS : S = none → cS = 0) (hfew : few T = false) : Tells 4 #[.slice A lt c, .slice S nS cS] w (.bool true) := by
  have HT := Lib.hid hT
  have HLT := Lib.hid hlt
  have HKL := Lib.hid hkl
  have Z := Lib.hid (Below.refl w.heap.size w)
  have HS := Lib.hid hS
  have HNS := Lib.hid hnS
  have HES := Lib.hid heS
  unfold maxLen at hmS hdS
  clear hT hlt hkl hS hnS heS
  go_enter Try.func4, Try.ntmps4
  go_wp2_with fail
  refine (awake_any w).mono ?_
  rintro _ w1 ⟨rfl, zz⟩
  replace HT := Lib.hid (HT.out.later zz)
  replace HS := Lib.hid (HS.out.later zz)
  replace Z := Lib.hid (Z.out.trans (zz.mono Z.out.size))
  clear zz
  go_wp2_with fail
  refine (kfew w1 HT.out htl HKL.out HLT.out hfew).mono ?_
  rintro _ w2 ⟨rfl, ew⟩
  subst ew
  go_wp2
  go_ret
  exact ⟨rfl, Z.out⟩
set_option maxRecDepth 100000 in
set_option maxHeartbeats 4000000 in
theorem less_longS (A S : Option Addr) (c lt cS nS : Nat) (T : List Tsk) (lS : List Itm) (w : World) (hT : Tk w.heap.size w A T) (htl : T.length ≤ maxLen) (hkl : ∀ x ∈ T, x.2.length ≤ maxLen) (hlt : T.length = lt) (hS : Ir w.heap.size w S lS) (hnS : lS.length = nS) (hmS : nS ≤ maxLen) (hcS : nS ≤ cS) (hdS : cS ≤ maxLen) (heS : S = none → cS = 0) (hfew : few T = true) (hlS : 40 < nS) : Tells 4 #[.slice A lt c, .slice S nS cS] w (.bool true) := by
  have HT := Lib.hid hT
  have HLT := Lib.hid hlt
  have HKL := Lib.hid hkl
  have Z := Lib.hid (Below.refl w.heap.size w)
  have HS := Lib.hid hS
  have HNS := Lib.hid hnS
  have HES := Lib.hid heS
  unfold maxLen at hmS hdS
  clear hT hlt hkl hS hnS heS
  go_enter Try.func4, Try.ntmps4
  go_wp2_with fail
  refine (awake_any w).mono ?_
  rintro _ w1 ⟨rfl, zz⟩
  replace HT := Lib.hid (HT.out.later zz)
  replace HS := Lib.hid (HS.out.later zz)
  replace Z := Lib.hid (Z.out.trans (zz.mono Z.out.size))
  clear zz
  go_wp2_with fail
  refine (kfew w1 HT.out htl HKL.out HLT.out hfew).mono ?_
  rintro _ w2 ⟨rfl, ew⟩
  subst ew
  go_wp2
  go_ret
  exact ⟨rfl, Z.out⟩
set_option maxRecDepth 100000 in
set_option maxHeartbeats 4000000 in
theorem less_no (A S : Option Addr) (c lt cS nS : Nat) (T : List Tsk) (lS : List Itm) (w : World) (hT : Tk w.heap.size w A T) (htl : T.length ≤ maxLen) (hkl : ∀ x ∈ T, x.2.length ≤ maxLen) (hlt : T.length = lt) (hS : Ir w.heap.size w S lS) (hnS : lS.length = nS) (hmS : nS ≤ maxLen) (hcS : nS ≤ cS) (hdS : cS ≤ maxLen) (heS : S = none → cS = 0) (hfew : few T = true) (hlS : nS ≤ 40) (hmay : mayS T lS = false) : Tells 4 #[.slice A lt c, .slice S nS cS] w (.bool true) := by
  have SM := Lib.hid (few_sm hfew)
  have hlS1 : ¬ 40 < nS := by omega
  have HT := Lib.hid hT
  have HLT := Lib.hid hlt
  have HKL := Lib.hid hkl
  have Z := Lib.hid (Below.refl w.heap.size w)
  have HS := Lib.hid hS
  have HNS := Lib.hid hnS
  have HES := Lib.hid heS
  unfold maxLen at hmS hdS
  clear hT hlt hkl hS hnS heS
  go_enter Try.func4, Try.ntmps4
  go_wp2_with fail
  refine (awake_any w).mono ?_
  rintro _ w1 ⟨rfl, zz⟩
  replace HT := Lib.hid (HT.out.later zz)
  replace HS := Lib.hid (HS.out.later zz)
  replace Z := Lib.hid (Z.out.trans (zz.mono Z.out.size))
  clear zz
  go_wp2_with fail
  refine (kfew w1 HT.out htl HKL.out HLT.out hfew).mono ?_
  rintro _ w2 ⟨rfl, ew⟩
  subst ew
  go_wp2_with fail
  refine (kmay HT.out HS.out SM.out HLT.out HNS.out (by omega) hmay).mono ?_
  rintro _ w2 ⟨rfl, zz⟩
  replace HT := Lib.hid (HT.out.later zz)
  replace HS := Lib.hid (HS.out.later zz)
  replace Z := Lib.hid (Z.out.trans (zz.mono Z.out.size))
  clear zz
  go_wp2
  go_ret
  exact ⟨rfl, Z.out⟩
set_option maxRecDepth 100000 in
set_option maxHeartbeats 4000000 in
theorem less_yes (A S : Option Addr) (c lt cS nS : Nat) (T : List Tsk) (lS : List Itm) (w : World) (hT : Tk w.heap.size w A T) (htl : T.length ≤ maxLen) (hkl : ∀ x ∈ T, x.2.length ≤ maxLen) (hlt : T.length = lt) (hS : Ir w.heap.size w S lS) (hnS : lS.length = nS) (hmS : nS ≤ maxLen) (hcS : nS ≤ cS) (hdS : cS ≤ maxLen) (heS : S = none → cS = 0) (hfew : few T = true) (hlS : nS ≤ 40) (hmay : mayS T lS = true) (hne : lS = []) : Tells 4 #[.slice A lt c, .slice S nS cS] w (.bool true) := by
  have SM := Lib.hid (few_sm hfew)
  have hlS1 : ¬ 40 < nS := by omega
  subst hne
  obtain rfl : nS = 0 := by simpa using hnS.symm
  have HT := Lib.hid hT
  have HLT := Lib.hid hlt
  have HKL := Lib.hid hkl
  have Z := Lib.hid (Below.refl w.heap.size w)
  have HS := Lib.hid hS
  have HNS := Lib.hid hnS
  have HES := Lib.hid heS
  unfold maxLen at hmS hdS
  clear hT hlt hkl hS hnS heS
  go_enter Try.func4, Try.ntmps4
  go_wp2_with fail
  refine (awake_any w).mono ?_
  rintro _ w1 ⟨rfl, zz⟩
  replace HT := Lib.hid (HT.out.later zz)
  replace HS := Lib.hid (HS.out.later zz)
  replace Z := Lib.hid (Z.out.trans (zz.mono Z.out.size))
  clear zz
  go_wp2_with fail
  refine (kfew w1 HT.out htl HKL.out HLT.out hfew).mono ?_
  rintro _ w2 ⟨rfl, ew⟩
  subst ew
  go_wp2_with fail
  refine (kmay HT.out HS.out SM.out HLT.out HNS.out (by omega) hmay).mono ?_
  rintro _ w2 ⟨rfl, zz⟩
  replace HT := Lib.hid (HT.out.later zz)
  replace HS := Lib.hid (HS.out.later zz)
  replace Z := Lib.hid (Z.out.trans (zz.mono Z.out.size))
  clear zz
  go_wp2_with fail
  refine (kdo HT.out HS.out SM.out HLT.out HNS.out (by omega) (k := []) (m := 0) doS_nil rfl).mono ?_
  rintro _ w3 ⟨X, cX, rfl, hX, _, _, zz⟩
  replace HT := Lib.hid (HT.out.later zz)
  replace HS := Lib.hid (HS.out.later zz)
  have HX := Lib.hid hX
  replace Z := Lib.hid (Z.out.trans (zz.mono Z.out.size))
  clear zz hX
  go_wp2_with fail
  refine (kleft HT.out HS.out SM.out HLT.out HNS.out (by omega) (q := 0) leftS_nil).mono ?_
  rintro _ w4 ⟨rfl, zz⟩
  replace HT := Lib.hid (HT.out.later zz)
  replace HS := Lib.hid (HS.out.later zz)
  replace HX := Lib.hid (HX.out.later zz)
  replace Z := Lib.hid (Z.out.trans (zz.mono Z.out.size))
  clear zz
  go_wp2
  go_ret
  exact ⟨rfl, Z.out⟩

set_option maxRecDepth 100000 in
set_option maxHeartbeats 4000000 in
theorem less_yes2 (A S : Option Addr) (c lt cS nS : Nat) (T : List Tsk) (lS : List Itm) (w : World) (hT : Tk w.heap.size w A T) (htl : T.length ≤ maxLen) (hkl : ∀ x ∈ T, x.2.length ≤ maxLen) (hlt : T.length = lt) (hS : Ir w.heap.size w S lS) (hnS : lS.length = nS) (hmS : nS ≤ maxLen) (hcS : nS ≤ cS) (hdS : cS ≤ maxLen) (heS : S = none → cS = 0) (hfew : few T = true) (hlS : nS ≤ 40) (hmay : mayS T lS = true) (hne : lS ≠ []) : Tells 4 #[.slice A lt c, .slice S nS cS] w (.bool true) := by
  have SM := Lib.hid (few_sm hfew)
  have hlS1 : ¬ 40 < nS := by omega
  have hq := less_S hmay hne
  obtain ⟨q, hq0⟩ : ∃ q, leftS T lS = q := ⟨_, rfl⟩
  obtain ⟨k, hk⟩ : ∃ k, doS T lS = k := ⟨_, rfl⟩
  obtain ⟨m, hm⟩ : ∃ m, k.length = m := ⟨_, rfl⟩
  have hb := leftS_le SM.out hmay
  rw [hq0] at hb
  rw [hk, hq0, hm, hnS] at hq
  obtain ⟨g1, g2, g3, g4, g5⟩ := hq
  rw [hnS] at hb
  have G1 := Lib.hid g1
  have G2 := Lib.hid g2
  have HQ0 := Lib.hid hq0
  have HK := Lib.hid hk
  have HM := Lib.hid hm
  have q0 : (q == 0) = false := by simp; omega
  have q1 : (q - 1 == q - 1) = true := by simp
  have g6 : (nS : Int) - 1 ≤ (m : Int) := by omega
  clear g1 g2 hq0 hk hm hne
  have HT := Lib.hid hT
  have HLT := Lib.hid hlt
  have HKL := Lib.hid hkl
  have Z := Lib.hid (Below.refl w.heap.size w)
  have HS := Lib.hid hS
  have HNS := Lib.hid hnS
  have HES := Lib.hid heS
  unfold maxLen at hmS hdS
  clear hT hlt hkl hS hnS heS
  go_enter Try.func4, Try.ntmps4
  go_wp2_with fail
  refine (awake_any w).mono ?_
  rintro _ w1 ⟨rfl, zz⟩
  replace HT := Lib.hid (HT.out.later zz)
  replace HS := Lib.hid (HS.out.later zz)
  replace Z := Lib.hid (Z.out.trans (zz.mono Z.out.size))
  clear zz
  go_wp2_with fail
  refine (kfew w1 HT.out htl HKL.out HLT.out hfew).mono ?_
  rintro _ w2 ⟨rfl, ew⟩
  subst ew
  go_wp2_with fail
  refine (kmay HT.out HS.out SM.out HLT.out HNS.out (by omega) hmay).mono ?_
  rintro _ w2 ⟨rfl, zz⟩
  replace HT := Lib.hid (HT.out.later zz)
  replace HS := Lib.hid (HS.out.later zz)
  replace Z := Lib.hid (Z.out.trans (zz.mono Z.out.size))
  clear zz
  go_wp2_with fail
  refine (kdo HT.out HS.out SM.out HLT.out HNS.out (by omega) HK.out HM.out).mono ?_
  rintro _ w3 ⟨X, cX, rfl, hX, _, _, zz⟩
  replace HT := Lib.hid (HT.out.later zz)
  replace HS := Lib.hid (HS.out.later zz)
  have HX := Lib.hid hX
  replace Z := Lib.hid (Z.out.trans (zz.mono Z.out.size))
  clear zz hX
  go_wp2_with fail
  refine (kleft HT.out HS.out SM.out HLT.out HNS.out (by omega) HQ0.out).mono ?_
  rintro _ w4 ⟨rfl, zz⟩
  replace HT := Lib.hid (HT.out.later zz)
  replace HS := Lib.hid (HS.out.later zz)
  replace HX := Lib.hid (HX.out.later zz)
  replace Z := Lib.hid (Z.out.trans (zz.mono Z.out.size))
  clear zz
  go_wp2_with fail
  refine (kmay HT.out HX.out SM.out HLT.out HM.out (by omega) G1.out).mono ?_
  rintro _ w5 ⟨rfl, zz⟩
  replace HT := Lib.hid (HT.out.later zz)
  replace HS := Lib.hid (HS.out.later zz)
  replace HX := Lib.hid (HX.out.later zz)
  replace Z := Lib.hid (Z.out.trans (zz.mono Z.out.size))
  clear zz
  go_wp2_with fail
  refine (kleft HT.out HX.out SM.out HLT.out HM.out (by omega) G2.out).mono ?_
  rintro _ w6 ⟨rfl, zz⟩
  replace HT := Lib.hid (HT.out.later zz)
  replace HS := Lib.hid (HS.out.later zz)
  replace HX := Lib.hid (HX.out.later zz)
  replace Z := Lib.hid (Z.out.trans (zz.mono Z.out.size))
  clear zz
  go_wp2
  go_ret
  exact ⟨rfl, Z.out⟩
theorem less_any (A S : Option Addr) (c lt cS nS : Nat) (T : List Tsk) (lS : List Itm) (w : World) (hT : Tk w.heap.size w A T) (htl : T.length ≤ maxLen) (hkl : ∀ x ∈ T, x.2.length ≤ maxLen) (hlt : T.length = lt) (hS : Ir w.heap.size w S lS) (hnS : lS.length = nS) (hmS : nS ≤ maxLen) (hcS : nS ≤ cS) (hdS : cS ≤ maxLen) (heS : S = none → cS = 0) : Tells 4 #[.slice A lt c, .slice S nS cS] w (.bool true) := by
  cases hfew : few T
  · exact less_few A S c lt cS nS T lS  w hT htl hkl hlt hS hnS hmS hcS hdS heS hfew
  by_cases hlS : 40 < nS
  · exact less_longS A S c lt cS nS T lS  w hT htl hkl hlt hS hnS hmS hcS hdS heS hfew hlS
  have hlS1 : nS ≤ 40 := by omega
  cases hmay : mayS T lS
  · exact less_no A S c lt cS nS T lS  w hT htl hkl hlt hS hnS hmS hcS hdS heS hfew hlS1 hmay
  by_cases hne : lS = []
  · exact less_yes A S c lt cS nS T lS  w hT htl hkl hlt hS hnS hmS hcS hdS heS hfew hlS1 hmay hne
  · exact less_yes2 A S c lt cS nS T lS  w hT htl hkl hlt hS hnS hmS hcS hdS heS hfew hlS1 hmay hne
end Go.Proofs.Ytobcedlkmnmikaa.Fo
