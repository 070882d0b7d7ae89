/- The walk of ThinkNone. -/
import Derived.Test.YtobcedlkmnmikaaThW
import Derived.Test.YtobcedlkmnmikaaItQ
namespace Go.Proofs.Ytobcedlkmnmikaa.Fo
open Go.RowKit Go.Deep
set_option linter.unusedVariables false
attribute [local go_sem ↓] eql_act neq_act guard_act eql_it neq_it guard_it
attribute [local go_sem] field_kind
set_option maxRecDepth 100000 in
set_option maxHeartbeats 4000000 in
theorem none_few (A S : Option Addr) (c lt cS nS : Nat) (T : List Tsk) (lS : List Itm) (i : Int) (w : World) (hT : Tk w.heap.size w A T) (htl : T.length ≤ maxLen) (hkl : ∀ x ∈ T, x.2.length ≤ maxLen) (hlt : T.length = lt) (hS : Ir w.heap.size w S lS) (hnS : lS.length = nS) (hmS : nS ≤ maxLen) (hcS : nS ≤ cS) (hdS : cS ≤ maxLen) (heS : S = none → cS = 0) (hfew : few T = false) : Tells 8 #[.slice A lt c, .slice S nS cS, .int .i64 i] w (.bool true) := by
  have HT := Lib.hid hT
  have HLT := Lib.hid hlt
  have HKL := Lib.hid hkl
  have Z := Lib.hid (Below.refl w.heap.size w)
  have HS := Lib.hid hS
  have HNS := Lib.hid hnS
  have HES := Lib.hid heS
  unfold maxLen at hmS hdS
  clear hT hlt hkl hS hnS heS
  go_enter Try.func8, Try.ntmps8
  go_wp2_with fail
  refine (awake_any w).mono ?_
  rintro _ w1 ⟨rfl, zz⟩
  replace HT := Lib.hid (HT.out.later zz)
  replace HS := Lib.hid (HS.out.later zz)
  replace Z := Lib.hid (Z.out.trans (zz.mono Z.out.size))
  clear zz
  go_wp2_with fail
  refine (kfew w1 HT.out htl HKL.out HLT.out hfew).mono ?_
  rintro _ w2 ⟨rfl, ew⟩
  subst ew
  go_wp2
  go_ret
  exact ⟨rfl, Z.out⟩
set_option maxRecDepth 100000 in
set_option maxHeartbeats 4000000 in
theorem none_longS (A S : Option Addr) (c lt cS nS : Nat) (T : List Tsk) (lS : List Itm) (i : Int) (w : World) (hT : Tk w.heap.size w A T) (htl : T.length ≤ maxLen) (hkl : ∀ x ∈ T, x.2.length ≤ maxLen) (hlt : T.length = lt) (hS : Ir w.heap.size w S lS) (hnS : lS.length = nS) (hmS : nS ≤ maxLen) (hcS : nS ≤ cS) (hdS : cS ≤ maxLen) (heS : S = none → cS = 0) (hfew : few T = true) (hlS : 40 < nS) : Tells 8 #[.slice A lt c, .slice S nS cS, .int .i64 i] w (.bool true) := by
  have HT := Lib.hid hT
  have HLT := Lib.hid hlt
  have HKL := Lib.hid hkl
  have Z := Lib.hid (Below.refl w.heap.size w)
  have HS := Lib.hid hS
  have HNS := Lib.hid hnS
  have HES := Lib.hid heS
  unfold maxLen at hmS hdS
  clear hT hlt hkl hS hnS heS
  go_enter Try.func8, Try.ntmps8
  go_wp2_with fail
  refine (awake_any w).mono ?_
  rintro _ w1 ⟨rfl, zz⟩
  replace HT := Lib.hid (HT.out.later zz)
  replace HS := Lib.hid (HS.out.later zz)
  replace Z := Lib.hid (Z.out.trans (zz.mono Z.out.size))
  clear zz
  go_wp2_with fail
  refine (kfew w1 HT.out htl HKL.out HLT.out hfew).mono ?_
  rintro _ w2 ⟨rfl, ew⟩
  subst ew
  go_wp2
  go_ret
  exact ⟨rfl, Z.out⟩
set_option maxRecDepth 100000 in
set_option maxHeartbeats 4000000 in
theorem none_nil (A S : Option Addr) (c lt cS nS : Nat) (T : List Tsk) (lS : List Itm) (i : Int) (w : World) (hT : Tk w.heap.size w A T) (htl : T.length ≤ maxLen) (hkl : ∀ x ∈ T, x.2.length ≤ maxLen) (hlt : T.length = lt) (hS : Ir w.heap.size w S lS) (hnS : lS.length = nS) (hmS : nS ≤ maxLen) (hcS : nS ≤ cS) (hdS : cS ≤ maxLen) (heS : S = none → cS = 0) (hfew : few T = true) (hlS : nS ≤ 40) (hmay : mayS T lS = true) (hne : lS = []) : Tells 8 #[.slice A lt c, .slice S nS cS, .int .i64 i] w (.bool true) := by
  have SM := Lib.hid (few_sm hfew)
  have hlS1 : ¬ 40 < nS := by omega
  subst hne
  obtain rfl : nS = 0 := by simpa using hnS.symm
  have hae := ae_yes (a := 0) (b := 0) (a' := 0) (b' := 0) rfl
  have HT := Lib.hid hT
  have HLT := Lib.hid hlt
  have HKL := Lib.hid hkl
  have Z := Lib.hid (Below.refl w.heap.size w)
  have HS := Lib.hid hS
  have HNS := Lib.hid hnS
  have HES := Lib.hid heS
  unfold maxLen at hmS hdS
  clear hT hlt hkl hS hnS heS
  go_enter Try.func8, Try.ntmps8
  go_wp2_with fail
  refine (awake_any w).mono ?_
  rintro _ w1 ⟨rfl, zz⟩
  replace HT := Lib.hid (HT.out.later zz)
  replace HS := Lib.hid (HS.out.later zz)
  replace Z := Lib.hid (Z.out.trans (zz.mono Z.out.size))
  clear zz
  go_wp2_with fail
  refine (kfew w1 HT.out htl HKL.out HLT.out hfew).mono ?_
  rintro _ w2 ⟨rfl, ew⟩
  subst ew
  go_wp2_with fail
  refine (knext HT.out HS.out SM.out HLT.out HNS.out (by omega) (a := 0) (b := 0) nextS_nil).mono ?_
  rintro _ w2 ⟨rfl, zz⟩
  replace HT := Lib.hid (HT.out.later zz)
  replace HS := Lib.hid (HS.out.later zz)
  replace Z := Lib.hid (Z.out.trans (zz.mono Z.out.size))
  clear zz
  go_wp2_with fail
  refine (kdo HT.out HS.out SM.out HLT.out HNS.out (by omega) (k := []) (m := 0) doS_nil rfl).mono ?_
  rintro _ w3 ⟨X, cX, rfl, hX, _, _, zz⟩
  replace HT := Lib.hid (HT.out.later zz)
  replace HS := Lib.hid (HS.out.later zz)
  have HX := Lib.hid hX
  replace Z := Lib.hid (Z.out.trans (zz.mono Z.out.size))
  clear zz hX
  go_wp2_with fail
  refine (ksame HX.out HS.out rfl HNS.out (by simp) (q := true) (by decide)).mono ?_
  rintro _ w4 ⟨rfl, zz⟩
  replace HT := Lib.hid (HT.out.later zz)
  replace HS := Lib.hid (HS.out.later zz)
  replace HX := Lib.hid (HX.out.later zz)
  replace Z := Lib.hid (Z.out.trans (zz.mono Z.out.size))
  clear zz
  go_wp2_with fail
  refine (kmay HT.out HS.out SM.out HLT.out HNS.out (by omega) hmay).mono ?_
  rintro _ w5 ⟨rfl, zz⟩
  replace HT := Lib.hid (HT.out.later zz)
  replace HS := Lib.hid (HS.out.later zz)
  replace HX := Lib.hid (HX.out.later zz)
  replace Z := Lib.hid (Z.out.trans (zz.mono Z.out.size))
  clear zz
  go_wp2
  go_ret
  exact ⟨rfl, Z.out⟩
set_option maxRecDepth 100000 in
set_option maxHeartbeats 4000000 in
theorem none_yes (A S : Option Addr) (c lt cS nS : Nat) (T : List Tsk) (lS : List Itm) (i : Int) (w : World) (hT : Tk w.heap.size w A T) (htl : T.length ≤ maxLen) (hkl : ∀ x ∈ T, x.2.length ≤ maxLen) (hlt : T.length = lt) (hS : Ir w.heap.size w S lS) (hnS : lS.length = nS) (hmS : nS ≤ maxLen) (hcS : nS ≤ cS) (hdS : cS ≤ maxLen) (heS : S = none → cS = 0) (hfew : few T = true) (hlS : nS ≤ 40) (hmay : mayS T lS = true) (hne : lS ≠ []) : Tells 8 #[.slice A lt c, .slice S nS cS, .int .i64 i] w (.bool true) := by
  have SM := Lib.hid (few_sm hfew)
  have hlS1 : ¬ 40 < nS := by omega
  have hn0 : ((nS : Int) == 0) = false := by cases lS with
    | nil => exact absurd rfl hne
    | cons y l => subst hnS; simp; omega
  have hq := fun h => hne ((none_S hmay).1 h)
  obtain ⟨⟨a, b⟩, hk⟩ : ∃ k, nextS T lS = k := ⟨_, rfl⟩
  have hae : ae a b 0 0 = false := ae_no (fun h => by
    obtain ⟨p, y, rfl⟩ := snoc_of hne
    rw [nextS_snoc hmay] at hk
    have := kind_at (T := T) (x := y)
    rw [hk] at this
    cases h
    simp at this)
  have HK := Lib.hid hk
  clear hk hq hne
  have HT := Lib.hid hT
  have HLT := Lib.hid hlt
  have HKL := Lib.hid hkl
  have Z := Lib.hid (Below.refl w.heap.size w)
  have HS := Lib.hid hS
  have HNS := Lib.hid hnS
  have HES := Lib.hid heS
  unfold maxLen at hmS hdS
  clear hT hlt hkl hS hnS heS
  go_enter Try.func8, Try.ntmps8
  go_wp2_with fail
  refine (awake_any w).mono ?_
  rintro _ w1 ⟨rfl, zz⟩
  replace HT := Lib.hid (HT.out.later zz)
  replace HS := Lib.hid (HS.out.later zz)
  replace Z := Lib.hid (Z.out.trans (zz.mono Z.out.size))
  clear zz
  go_wp2_with fail
  refine (kfew w1 HT.out htl HKL.out HLT.out hfew).mono ?_
  rintro _ w2 ⟨rfl, ew⟩
  subst ew
  go_wp2_with fail
  refine (knext HT.out HS.out SM.out HLT.out HNS.out (by omega) (a := a) (b := b) HK.out).mono ?_
  rintro _ w2 ⟨rfl, zz⟩
  replace HT := Lib.hid (HT.out.later zz)
  replace HS := Lib.hid (HS.out.later zz)
  replace Z := Lib.hid (Z.out.trans (zz.mono Z.out.size))
  clear zz
  go_wp2_with fail
  refine (kmay HT.out HS.out SM.out HLT.out HNS.out (by omega) hmay).mono ?_
  rintro _ w3 ⟨rfl, zz⟩
  replace HT := Lib.hid (HT.out.later zz)
  replace HS := Lib.hid (HS.out.later zz)
  replace Z := Lib.hid (Z.out.trans (zz.mono Z.out.size))
  clear zz
  go_wp2
  go_ret
  exact ⟨rfl, Z.out⟩
set_option maxRecDepth 100000 in
set_option maxHeartbeats 4000000 in
theorem none_not (A S : Option Addr) (c lt cS nS : Nat) (T : List Tsk) (lS : List Itm) (i : Int) (w : World) (hT : Tk w.heap.size w A T) (htl : T.length ≤ maxLen) (hkl : ∀ x ∈ T, x.2.length ≤ maxLen) (hlt : T.length = lt) (hS : Ir w.heap.size w S lS) (hnS : lS.length = nS) (hmS : nS ≤ maxLen) (hcS : nS ≤ cS) (hdS : cS ≤ maxLen) (heS : S = none → cS = 0) (hfew : few T = true) (hlS : nS ≤ 40) (hmay : mayS T lS = false) : Tells 8 #[.slice A lt c, .slice S nS cS, .int .i64 i] w (.bool true) := by
  have SM := Lib.hid (few_sm hfew)
  have hlS1 : ¬ 40 < nS := by omega
  have hae := ae_yes (a := 0) (b := 0) (a' := 0) (b' := 0) rfl
  have HM := Lib.hid hmay
  have HT := Lib.hid hT
  have HLT := Lib.hid hlt
  have HKL := Lib.hid hkl
  have Z := Lib.hid (Below.refl w.heap.size w)
  have HS := Lib.hid hS
  have HNS := Lib.hid hnS
  have HES := Lib.hid heS
  unfold maxLen at hmS hdS
  clear hT hlt hkl hS hnS heS
  go_enter Try.func8, Try.ntmps8
  go_wp2_with fail
  refine (awake_any w).mono ?_
  rintro _ w1 ⟨rfl, zz⟩
  replace HT := Lib.hid (HT.out.later zz)
  replace HS := Lib.hid (HS.out.later zz)
  replace Z := Lib.hid (Z.out.trans (zz.mono Z.out.size))
  clear zz
  go_wp2_with fail
  refine (kfew w1 HT.out htl HKL.out HLT.out hfew).mono ?_
  rintro _ w2 ⟨rfl, ew⟩
  subst ew
  go_wp2_with fail
  refine (knext HT.out HS.out SM.out HLT.out HNS.out (by omega) (a := 0) (b := 0) (nextS_no HM.out)).mono ?_
  rintro _ w2 ⟨rfl, zz⟩
  replace HT := Lib.hid (HT.out.later zz)
  replace HS := Lib.hid (HS.out.later zz)
  replace Z := Lib.hid (Z.out.trans (zz.mono Z.out.size))
  clear zz
  go_wp2_with fail
  refine (kdo HT.out HS.out SM.out HLT.out HNS.out (by omega) (doS_no HM.out) HNS.out).mono ?_
  rintro _ w3 ⟨X, cX, rfl, hX, _, _, zz⟩
  replace HT := Lib.hid (HT.out.later zz)
  replace HS := Lib.hid (HS.out.later zz)
  have HX := Lib.hid hX
  replace Z := Lib.hid (Z.out.trans (zz.mono Z.out.size))
  clear zz hX
  go_wp2_with fail
  refine (ksame HX.out HS.out HNS.out HNS.out (by omega) (q := true) (by simp)).mono ?_
  rintro _ w4 ⟨rfl, zz⟩
  replace HT := Lib.hid (HT.out.later zz)
  replace HS := Lib.hid (HS.out.later zz)
  replace HX := Lib.hid (HX.out.later zz)
  replace Z := Lib.hid (Z.out.trans (zz.mono Z.out.size))
  clear zz
  go_wp2_with fail
  refine (kmay HT.out HS.out SM.out HLT.out HNS.out (by omega) hmay).mono ?_
  rintro _ w5 ⟨rfl, zz⟩
  replace HT := Lib.hid (HT.out.later zz)
  replace HS := Lib.hid (HS.out.later zz)
  replace HX := Lib.hid (HX.out.later zz)
  replace Z := Lib.hid (Z.out.trans (zz.mono Z.out.size))
  clear zz
  go_wp2_with fail
  refine (kleft HT.out HS.out SM.out HLT.out HNS.out (by omega) (leftS_no HM.out)).mono ?_
  rintro _ w6 ⟨rfl, zz⟩
  replace HT := Lib.hid (HT.out.later zz)
  replace HS := Lib.hid (HS.out.later zz)
  replace HX := Lib.hid (HX.out.later zz)
  replace Z := Lib.hid (Z.out.trans (zz.mono Z.out.size))
  clear zz
  go_wp2_with fail
  refine (kstart HT.out HS.out SM.out HLT.out HNS.out (by omega) (startS_no HM.out) HNS.out).mono ?_
  rintro _ w7 ⟨Y, cY, rfl, hY, _, _, zz⟩
  replace HT := Lib.hid (HT.out.later zz)
  replace HS := Lib.hid (HS.out.later zz)
  replace HX := Lib.hid (HX.out.later zz)
  have HY := Lib.hid hY
  replace Z := Lib.hid (Z.out.trans (zz.mono Z.out.size))
  clear zz hY
  go_wp2_with fail
  refine (ksame HY.out HS.out HNS.out HNS.out (by omega) (q := true) (by simp)).mono ?_
  rintro _ w8 ⟨rfl, zz⟩
  replace HT := Lib.hid (HT.out.later zz)
  replace HS := Lib.hid (HS.out.later zz)
  replace HX := Lib.hid (HX.out.later zz)
  replace HY := Lib.hid (HY.out.later zz)
  replace Z := Lib.hid (Z.out.trans (zz.mono Z.out.size))
  clear zz
  go_wp2
  go_ret
  exact ⟨rfl, Z.out⟩
theorem none_any (A S : Option Addr) (c lt cS nS : Nat) (T : List Tsk) (lS : List Itm) (i : Int) (w : World) (hT : Tk w.heap.size w A T) (htl : T.length ≤ maxLen) (hkl : ∀ x ∈ T, x.2.length ≤ maxLen) (hlt : T.length = lt) (hS : Ir w.heap.size w S lS) (hnS : lS.length = nS) (hmS : nS ≤ maxLen) (hcS : nS ≤ cS) (hdS : cS ≤ maxLen) (heS : S = none → cS = 0) : Tells 8 #[.slice A lt c, .slice S nS cS, .int .i64 i] w (.bool true) := by
  cases hfew : few T
  · exact none_few A S c lt cS nS T lS i w hT htl hkl hlt hS hnS hmS hcS hdS heS hfew
  by_cases hlS : 40 < nS
  · exact none_longS A S c lt cS nS T lS i w hT htl hkl hlt hS hnS hmS hcS hdS heS hfew hlS
  have hlS1 : nS ≤ 40 := by omega
  cases hmay : mayS T lS
  · exact none_not A S c lt cS nS T lS i w hT htl hkl hlt hS hnS hmS hcS hdS heS hfew hlS1 hmay
  by_cases hne : lS = []
  · exact none_nil A S c lt cS nS T lS i w hT htl hkl hlt hS hnS hmS hcS hdS heS hfew hlS1 hmay hne
  · exact none_yes A S c lt cS nS T lS i w hT htl hkl hlt hS hnS hmS hcS hdS heS hfew hlS1 hmay hne
end Go.Proofs.Ytobcedlkmnmikaa.Fo
