/- The walk of ThinkStart. -/
import Derived.Test.YtobcedlkmnmikaaThW
import Derived.Test.YtobcedlkmnmikaaItQ
namespace Go.Proofs.Ytobcedlkmnmikaa.Fo
open Go.RowKit Go.Deep
set_option linter.unusedVariables false
attribute [local go_sem ↓] eql_act neq_act guard_act eql_it neq_it guard_it
attribute [local go_sem] field_kind
set_option maxRecDepth 100000 in
set_option maxHeartbeats 4000000 in
theorem start_few (A S : Option Addr) (c lt cS nS : Nat) (T : List Tsk) (lS : List Itm) (k : Int) (i : Int) (w : World) (hT : Tk w.heap.size w A T) (htl : T.length ≤ maxLen) (hkl : ∀ x ∈ T, x.2.length ≤ maxLen) (hlt : T.length = lt) (hS : Ir w.heap.size w S lS) (hnS : lS.length = nS) (hmS : nS ≤ maxLen) (hcS : nS ≤ cS) (hdS : cS ≤ maxLen) (heS : S = none → cS = 0) (hfew : few T = false) : Tells 6 #[.slice A lt c, .slice S nS cS, .int .i64 k, .int .i64 i] w (.bool true) := by
  have HT := Lib.hid hT
  have HLT := Lib.hid hlt
  have HKL := Lib.hid hkl
  have Z := Lib.hid (Below.refl w.heap.size w)
  have HS := Lib.hid hS
  have HNS := Lib.hid hnS
  have HES := Lib.hid heS
  unfold maxLen at hmS hdS
  clear hT hlt hkl hS hnS heS
  go_enter Try.func6, Try.ntmps6
  go_wp2_with fail
  refine (awake_any w).mono ?_
  rintro _ w1 ⟨rfl, zz⟩
  replace HT := Lib.hid (HT.out.later zz)
  replace HS := Lib.hid (HS.out.later zz)
  replace Z := Lib.hid (Z.out.trans (zz.mono Z.out.size))
  clear zz
  go_wp2_with fail
  refine (kfew w1 HT.out htl HKL.out HLT.out hfew).mono ?_
  rintro _ w2 ⟨rfl, ew⟩
  subst ew
  go_wp2
  go_ret
  exact ⟨rfl, Z.out⟩
set_option maxRecDepth 100000 in
set_option maxHeartbeats 4000000 in
theorem start_longS (A S : Option Addr) (c lt cS nS : Nat) (T : List Tsk) (lS : List Itm) (k : Int) (i : Int) (w : World) (hT : Tk w.heap.size w A T) (htl : T.length ≤ maxLen) (hkl : ∀ x ∈ T, x.2.length ≤ maxLen) (hlt : T.length = lt) (hS : Ir w.heap.size w S lS) (hnS : lS.length = nS) (hmS : nS ≤ maxLen) (hcS : nS ≤ cS) (hdS : cS ≤ maxLen) (heS : S = none → cS = 0) (hfew : few T = true) (hlS : 40 < nS) : Tells 6 #[.slice A lt c, .slice S nS cS, .int .i64 k, .int .i64 i] w (.bool true) := by
  have HT := Lib.hid hT
  have HLT := Lib.hid hlt
  have HKL := Lib.hid hkl
  have Z := Lib.hid (Below.refl w.heap.size w)
  have HS := Lib.hid hS
  have HNS := Lib.hid hnS
  have HES := Lib.hid heS
  unfold maxLen at hmS hdS
  clear hT hlt hkl hS hnS heS
  go_enter Try.func6, Try.ntmps6
  go_wp2_with fail
  refine (awake_any w).mono ?_
  rintro _ w1 ⟨rfl, zz⟩
  replace HT := Lib.hid (HT.out.later zz)
  replace HS := Lib.hid (HS.out.later zz)
  replace Z := Lib.hid (Z.out.trans (zz.mono Z.out.size))
  clear zz
  go_wp2_with fail
  refine (kfew w1 HT.out htl HKL.out HLT.out hfew).mono ?_
  rintro _ w2 ⟨rfl, ew⟩
  subst ew
  go_wp2
  go_ret
  exact ⟨rfl, Z.out⟩
set_option maxRecDepth 100000 in
set_option maxHeartbeats 4000000 in
theorem start_no (A S : Option Addr) (c lt cS nS : Nat) (T : List Tsk) (lS : List Itm) (k : Int) (i : Int) (w : World) (hT : Tk w.heap.size w A T) (htl : T.length ≤ maxLen) (hkl : ∀ x ∈ T, x.2.length ≤ maxLen) (hlt : T.length = lt) (hS : Ir w.heap.size w S lS) (hnS : lS.length = nS) (hmS : nS ≤ maxLen) (hcS : nS ≤ cS) (hdS : cS ≤ maxLen) (heS : S = none → cS = 0) (hfew : few T = true) (hlS : nS ≤ 40) (hmay : mayS T lS = false) : Tells 6 #[.slice A lt c, .slice S nS cS, .int .i64 k, .int .i64 i] w (.bool true) := by
  have SM := Lib.hid (few_sm hfew)
  have hlS1 : ¬ 40 < nS := by omega
  have HT := Lib.hid hT
  have HLT := Lib.hid hlt
  have HKL := Lib.hid hkl
  have Z := Lib.hid (Below.refl w.heap.size w)
  have HS := Lib.hid hS
  have HNS := Lib.hid hnS
  have HES := Lib.hid heS
  unfold maxLen at hmS hdS
  clear hT hlt hkl hS hnS heS
  go_enter Try.func6, Try.ntmps6
  go_wp2_with fail
  refine (awake_any w).mono ?_
  rintro _ w1 ⟨rfl, zz⟩
  replace HT := Lib.hid (HT.out.later zz)
  replace HS := Lib.hid (HS.out.later zz)
  replace Z := Lib.hid (Z.out.trans (zz.mono Z.out.size))
  clear zz
  go_wp2_with fail
  refine (kfew w1 HT.out htl HKL.out HLT.out hfew).mono ?_
  rintro _ w2 ⟨rfl, ew⟩
  subst ew
  go_wp2_with fail
  refine (kmay HT.out HS.out SM.out HLT.out HNS.out (by omega) hmay).mono ?_
  rintro _ w2 ⟨rfl, zz⟩
  replace HT := Lib.hid (HT.out.later zz)
  replace HS := Lib.hid (HS.out.later zz)
  replace Z := Lib.hid (Z.out.trans (zz.mono Z.out.size))
  clear zz
  go_wp2
  go_ret
  exact ⟨rfl, Z.out⟩
set_option maxRecDepth 100000 in
set_option maxHeartbeats 4000000 in
theorem start_outa (A S : Option Addr) (c lt cS nS : Nat) (T : List Tsk) (lS : List Itm) (k : Int) (i : Int) (w : World) (hT : Tk w.heap.size w A T) (htl : T.length ≤ maxLen) (hkl : ∀ x ∈ T, x.2.length ≤ maxLen) (hlt : T.length = lt) (hS : Ir w.heap.size w S lS) (hnS : lS.length = nS) (hmS : nS ≤ maxLen) (hcS : nS ≤ cS) (hdS : cS ≤ maxLen) (heS : S = none → cS = 0) (hfew : few T = true) (hlS : nS ≤ 40) (hmay : mayS T lS = true) (hk : k < 0) : Tells 6 #[.slice A lt c, .slice S nS cS, .int .i64 k, .int .i64 i] w (.bool true) := by
  have SM := Lib.hid (few_sm hfew)
  have hlS1 : ¬ 40 < nS := by omega
  have HE := Lib.hid (show startS T lS k = lS by unfold startS; rw [if_neg (by rw [hlt]; omega)])
  have HT := Lib.hid hT
  have HLT := Lib.hid hlt
  have HKL := Lib.hid hkl
  have Z := Lib.hid (Below.refl w.heap.size w)
  have HS := Lib.hid hS
  have HNS := Lib.hid hnS
  have HES := Lib.hid heS
  unfold maxLen at hmS hdS
  clear hT hlt hkl hS hnS heS
  go_enter Try.func6, Try.ntmps6
  go_wp2_with fail
  refine (awake_any w).mono ?_
  rintro _ w1 ⟨rfl, zz⟩
  replace HT := Lib.hid (HT.out.later zz)
  replace HS := Lib.hid (HS.out.later zz)
  replace Z := Lib.hid (Z.out.trans (zz.mono Z.out.size))
  clear zz
  go_wp2_with fail
  refine (kfew w1 HT.out htl HKL.out HLT.out hfew).mono ?_
  rintro _ w2 ⟨rfl, ew⟩
  subst ew
  go_wp2_with fail
  refine (kmay HT.out HS.out SM.out HLT.out HNS.out (by omega) hmay).mono ?_
  rintro _ w2 ⟨rfl, zz⟩
  replace HT := Lib.hid (HT.out.later zz)
  replace HS := Lib.hid (HS.out.later zz)
  replace Z := Lib.hid (Z.out.trans (zz.mono Z.out.size))
  clear zz
  go_wp2_with fail
  refine (kstart HT.out HS.out SM.out HLT.out HNS.out (by omega) HE.out HNS.out).mono ?_
  rintro _ w3 ⟨X, cX, rfl, hX, _, _, zz⟩
  replace HT := Lib.hid (HT.out.later zz)
  replace HS := Lib.hid (HS.out.later zz)
  have HX := Lib.hid hX
  replace Z := Lib.hid (Z.out.trans (zz.mono Z.out.size))
  clear zz hX
  go_wp2_with fail
  refine (ksame HX.out HS.out HNS.out HNS.out (by omega) (q := true) (by simp)).mono ?_
  rintro _ w4 ⟨rfl, zz⟩
  replace HT := Lib.hid (HT.out.later zz)
  replace HS := Lib.hid (HS.out.later zz)
  replace HX := Lib.hid (HX.out.later zz)
  replace Z := Lib.hid (Z.out.trans (zz.mono Z.out.size))
  clear zz
  go_wp2
  go_ret
  exact ⟨rfl, Z.out⟩
set_option maxRecDepth 100000 in
set_option maxHeartbeats 4000000 in
theorem start_outb (A S : Option Addr) (c lt cS nS : Nat) (T : List Tsk) (lS : List Itm) (k : Int) (i : Int) (w : World) (hT : Tk w.heap.size w A T) (htl : T.length ≤ maxLen) (hkl : ∀ x ∈ T, x.2.length ≤ maxLen) (hlt : T.length = lt) (hS : Ir w.heap.size w S lS) (hnS : lS.length = nS) (hmS : nS ≤ maxLen) (hcS : nS ≤ cS) (hdS : cS ≤ maxLen) (heS : S = none → cS = 0) (hfew : few T = true) (hlS : nS ≤ 40) (hmay : mayS T lS = true) (hk : (lt : Int) ≤ k) (hk0 : ¬ k < 0) : Tells 6 #[.slice A lt c, .slice S nS cS, .int .i64 k, .int .i64 i] w (.bool true) := by
  have SM := Lib.hid (few_sm hfew)
  have hlS1 : ¬ 40 < nS := by omega
  have HE := Lib.hid (show startS T lS k = lS by unfold startS; rw [if_neg (by rw [hlt]; omega)])
  have HT := Lib.hid hT
  have HLT := Lib.hid hlt
  have HKL := Lib.hid hkl
  have Z := Lib.hid (Below.refl w.heap.size w)
  have HS := Lib.hid hS
  have HNS := Lib.hid hnS
  have HES := Lib.hid heS
  unfold maxLen at hmS hdS
  clear hT hlt hkl hS hnS heS
  go_enter Try.func6, Try.ntmps6
  go_wp2_with fail
  refine (awake_any w).mono ?_
  rintro _ w1 ⟨rfl, zz⟩
  replace HT := Lib.hid (HT.out.later zz)
  replace HS := Lib.hid (HS.out.later zz)
  replace Z := Lib.hid (Z.out.trans (zz.mono Z.out.size))
  clear zz
  go_wp2_with fail
  refine (kfew w1 HT.out htl HKL.out HLT.out hfew).mono ?_
  rintro _ w2 ⟨rfl, ew⟩
  subst ew
  go_wp2_with fail
  refine (kmay HT.out HS.out SM.out HLT.out HNS.out (by omega) hmay).mono ?_
  rintro _ w2 ⟨rfl, zz⟩
  replace HT := Lib.hid (HT.out.later zz)
  replace HS := Lib.hid (HS.out.later zz)
  replace Z := Lib.hid (Z.out.trans (zz.mono Z.out.size))
  clear zz
  go_wp2_with fail
  refine (kstart HT.out HS.out SM.out HLT.out HNS.out (by omega) HE.out HNS.out).mono ?_
  rintro _ w3 ⟨X, cX, rfl, hX, _, _, zz⟩
  replace HT := Lib.hid (HT.out.later zz)
  replace HS := Lib.hid (HS.out.later zz)
  have HX := Lib.hid hX
  replace Z := Lib.hid (Z.out.trans (zz.mono Z.out.size))
  clear zz hX
  go_wp2_with fail
  refine (ksame HX.out HS.out HNS.out HNS.out (by omega) (q := true) (by simp)).mono ?_
  rintro _ w4 ⟨rfl, zz⟩
  replace HT := Lib.hid (HT.out.later zz)
  replace HS := Lib.hid (HS.out.later zz)
  replace HX := Lib.hid (HX.out.later zz)
  replace Z := Lib.hid (Z.out.trans (zz.mono Z.out.size))
  clear zz
  go_wp2
  go_ret
  exact ⟨rfl, Z.out⟩
set_option maxRecDepth 100000 in
set_option maxHeartbeats 4000000 in
theorem start_low (A S : Option Addr) (c lt cS nS : Nat) (T : List Tsk) (lS : List Itm) (k : Int) (i : Int) (w : World) (hT : Tk w.heap.size w A T) (htl : T.length ≤ maxLen) (hkl : ∀ x ∈ T, x.2.length ≤ maxLen) (hlt : T.length = lt) (hS : Ir w.heap.size w S lS) (hnS : lS.length = nS) (hmS : nS ≤ maxLen) (hcS : nS ≤ cS) (hdS : cS ≤ maxLen) (heS : S = none → cS = 0) (hfew : few T = true) (hlS : nS ≤ 40) (hmay : mayS T lS = true) (hk0 : 0 ≤ k) (hk : k < (lt : Int)) (hi : i < 0) : Tells 6 #[.slice A lt c, .slice S nS cS, .int .i64 k, .int .i64 i] w (.bool true) := by
  have SM := Lib.hid (few_sm hfew)
  have hlS1 : ¬ 40 < nS := by omega
  obtain ⟨u, rfl⟩ := Int.eq_ofNat_of_zero_le hk0
  have hu : u < T.length := by omega
  obtain ⟨g1, g2, g3⟩ := start_S hmay hk0 (by rw [hlt]; exact hk)
  rw [wkA_at hu, kdA_at hu] at g3
  obtain ⟨q, hq0⟩ : ∃ q, leftS T lS = q := ⟨_, rfl⟩
  have hb := leftS_le (few_sm hfew) hmay
  have hw := wk_at (may_parts (mayS_all hmay).1).2.1 hu
  have hkl2 := (few_sm hfew).at hu
  have hq1 : 0 ≤ q := by rw [← hq0]; unfold leftS; rw [if_pos hmay]; have := leftN_ge (mayS_all hmay).2; omega
  rw [hq0] at hb g3
  rw [hnS] at hb
  have hm : (lS ++ [((u : Int), (0 : Int), (0 : Int))]).length = nS + 1 := by simp [hnS]
  have hlast : (lS ++ [((u : Int), (0 : Int), (0 : Int))])[nS]? = some ((u : Int), 0, 0) := by rw [List.getElem?_append_right (by omega), show nS - lS.length = 0 by omega]; rfl
  have hp := ie_yes (x := ((u : Int), (0 : Int), (0 : Int))) (y := ((u : Int), (0 : Int), (0 : Int))) rfl
  simp only at hp
  have G1 := Lib.hid g1
  have G2 := Lib.hid g2
  have G3 := Lib.hid g3
  have HQ0 := Lib.hid hq0
  have HM := Lib.hid hm
  have HLA := Lib.hid hlast
  have HU := Lib.hid hu
  clear g1 g2 g3 hq0 hm hlast
  have HT := Lib.hid hT
  have HLT := Lib.hid hlt
  have HKL := Lib.hid hkl
  have Z := Lib.hid (Below.refl w.heap.size w)
  have HS := Lib.hid hS
  have HNS := Lib.hid hnS
  have HES := Lib.hid heS
  unfold maxLen at hmS hdS
  clear hT hlt hkl hS hnS heS
  go_enter Try.func6, Try.ntmps6
  go_wp2_with fail
  refine (awake_any w).mono ?_
  rintro _ w1 ⟨rfl, zz⟩
  replace HT := Lib.hid (HT.out.later zz)
  replace HS := Lib.hid (HS.out.later zz)
  replace Z := Lib.hid (Z.out.trans (zz.mono Z.out.size))
  clear zz
  go_wp2_with fail
  refine (kfew w1 HT.out htl HKL.out HLT.out hfew).mono ?_
  rintro _ w2 ⟨rfl, ew⟩
  subst ew
  go_wp2_with fail
  refine (kmay HT.out HS.out SM.out HLT.out HNS.out (by omega) hmay).mono ?_
  rintro _ w2 ⟨rfl, zz⟩
  replace HT := Lib.hid (HT.out.later zz)
  replace HS := Lib.hid (HS.out.later zz)
  replace Z := Lib.hid (Z.out.trans (zz.mono Z.out.size))
  clear zz
  go_wp2_with fail
  refine (kstart HT.out HS.out SM.out HLT.out HNS.out (by omega) G1.out HM.out).mono ?_
  rintro _ w3 ⟨X, cX, rfl, hX, _, _, zz⟩
  replace HT := Lib.hid (HT.out.later zz)
  replace HS := Lib.hid (HS.out.later zz)
  have HX := Lib.hid hX
  replace Z := Lib.hid (Z.out.trans (zz.mono Z.out.size))
  clear zz hX
  obtain ⟨bX, oX, rfl, hbX, fX⟩ := HX.out (by rw [HM.out]; omega)
  have FX := Lib.hid fX
  clear fX
  go_wp2_with fail
  refine (kmay HT.out HX.out SM.out HLT.out HM.out (by omega) G2.out).mono ?_
  rintro _ w4 ⟨rfl, zz⟩
  replace HT := Lib.hid (HT.out.later zz)
  replace HS := Lib.hid (HS.out.later zz)
  replace HX := Lib.hid (HX.out.later zz)
  replace Z := Lib.hid (Z.out.trans (zz.mono Z.out.size))
  clear zz
  obtain ⟨bX2, oX2, eX, hbX2, fX⟩ := HX.out (by rw [HM.out]; omega)
  cases eX
  obtain ⟨x0, x1, x2⟩ := fX nS _ HLA.out
  simp only at x0 x1 x2
  go_upto_region 10 with fail
  obtain ⟨bT, oT, KT, cT, rfl, hbT, t0, t1, _⟩ := HT.out.at HU.out
  generalize T[u].1 = W at *
  generalize T[u].2.length = L at *
  clear fX
  have HWR := Lib.hid (show IntKind.i64.wrap (IntKind.i64.wrap (IntKind.i64.wrap (q + W) + L) + 1) = q + W + L + 1 by simp only [IntKind.wrap_i64]; omega)
  have d0 : decide (i < 0) = true := decide_eq_true hi
  have HK := Lib.hid (show ∀ x', Below w4.heap.size w4 x' → (fun w' => w'.cell? ⟨bT, oT + u * 2, none⟩ = some (.int .i64 W) ∧ w'.cell? ⟨bT, oT + u * 2 + 1, none⟩ = some (.slice KT L cT) ∧ Below w4.heap.size w4 w') x' from fun x' hx => by
    exact ⟨(hx.cell (p := ⟨bT, oT + u * 2, none⟩) hbT).trans t0, (hx.cell (p := ⟨bT, oT + u * 2 + 1, none⟩) hbT).trans t1, hx⟩)
  have hHeld0 := HK.out _ (Below.refl _ _)
  have ZC := Lib.hid (Below.refl w4.heap.size w4).drew
  refine wp_region_held_drew (S := fun w' => w'.cell? ⟨bT, oT + u * 2, none⟩ = some (.int .i64 W) ∧ w'.cell? ⟨bT, oT + u * 2 + 1, none⟩ = some (.slice KT L cT) ∧ Below w4.heap.size w4 w') (by kernel_rfl) (hd_drew HK.out (fun _ h => h.2.2) hHeld0) (fun hHeld => ?_)
  refine wpAnyH_take (i := 0) (oi := { dst := some 70, op := Go.Op.move (Go.Operand.tmp 3), type := 3, pos := "more.go:23", after := #[], guard := none }) (v := ?vza1) rfl (by kernel_rfl) (by kernel_rfl) (by kernel_rfl) (fun _ _ _ h => h) (Or.inl ⟨by rfl, ?yza1⟩) (by assumption) ?rza1
  case yza1 => (intro w hSw; (try dsimp only at hSw); go_simp; (try with_reducible rfl))
  (try simp only [Act.put, List.setIfInBounds_toArray, List.set_cons_zero, List.set_cons_succ])
  refine wpAnyH_take (i := 1) (oi := { dst := some 71, op := Go.Op.binOp Go.BinOp.lss 3 (Go.Operand.tmp 70) (Go.Operand.const (Go.Value.int Go.IntKind.i64 0)) 3, type := 4, pos := "more.go:23", after := #[{ on := 0, ground := Go.Ground.data }], guard := none }) (v := ?vza2) rfl (by kernel_rfl) (by kernel_rfl) (by kernel_rfl) (fun _ _ _ h => h) (Or.inl ⟨by rfl, ?yza2⟩) (by assumption) ?rza2
  case yza2 => (intro w hSw; (try dsimp only at hSw); go_simp; (try with_reducible rfl))
  (try simp only [Act.put, List.setIfInBounds_toArray, List.set_cons_zero, List.set_cons_succ])
  refine wpAnyH_take (i := 2) (oi := { dst := some 72, op := Go.Op.move (Go.Operand.tmp 71), type := 4, pos := "more.go:23", after := #[{ on := 1, ground := Go.Ground.data }], guard := none }) (v := ?vza3) rfl (by kernel_rfl) (by kernel_rfl) (by kernel_rfl) (fun _ _ _ h => h) (Or.inl ⟨by rfl, ?yza3⟩) (by assumption) ?rza3
  case yza3 => (intro w hSw; (try dsimp only at hSw); go_simp; (try with_reducible rfl))
  (try simp only [Act.put, List.setIfInBounds_toArray, List.set_cons_zero, List.set_cons_succ])
  refine wpAnyH_take (i := 3) (oi := { dst := some 73, op := Go.Op.move (Go.Operand.tmp 3), type := 3, pos := "more.go:23", after := #[{ on := 2, ground := Go.Ground.guard }], guard := some (2, false) }) (v := undef) rfl (by kernel_rfl) (by kernel_rfl) (by kernel_rfl) (fun _ _ _ h => h) (Or.inr ⟨by rfl, rfl⟩) (by assumption) ?_
  (try simp only [Act.put, List.setIfInBounds_toArray, List.set_cons_zero, List.set_cons_succ])
  refine wpAnyH_take (i := 4) (oi := { dst := some 74, op := Go.Op.move (Go.Operand.tmp 1), type := 23, pos := "more.go:23", after := #[{ on := 2, ground := Go.Ground.guard }], guard := some (2, false) }) (v := undef) rfl (by kernel_rfl) (by kernel_rfl) (by kernel_rfl) (fun _ _ _ h => h) (Or.inr ⟨by rfl, rfl⟩) (by assumption) ?_
  (try simp only [Act.put, List.setIfInBounds_toArray, List.set_cons_zero, List.set_cons_succ])
  refine wpAnyH_take (i := 5) (oi := { dst := some 75, op := Go.Op.call { callee := Go.Callee.builtin Go.Builtin.len, args := #[Go.Operand.tmp 74], argTypes := #[23] }, type := 3, pos := "more.go:23", after := #[{ on := 4, ground := Go.Ground.data }, { on := 2, ground := Go.Ground.guard }], guard := some (2, false) }) (v := undef) rfl (by kernel_rfl) (by kernel_rfl) (by kernel_rfl) (fun _ _ _ h => h) (Or.inr ⟨by rfl, rfl⟩) (by assumption) ?_
  (try simp only [Act.put, List.setIfInBounds_toArray, List.set_cons_zero, List.set_cons_succ])
  refine wpAnyH_take (i := 6) (oi := { dst := some 76, op := Go.Op.binOp Go.BinOp.geq 3 (Go.Operand.tmp 73) (Go.Operand.tmp 75) 3, type := 4, pos := "more.go:23", after := #[{ on := 3, ground := Go.Ground.data }, { on := 5, ground := Go.Ground.data }, { on := 2, ground := Go.Ground.guard }], guard := some (2, false) }) (v := undef) rfl (by kernel_rfl) (by kernel_rfl) (by kernel_rfl) (fun _ _ _ h => h) (Or.inr ⟨by rfl, rfl⟩) (by assumption) ?_
  (try simp only [Act.put, List.setIfInBounds_toArray, List.set_cons_zero, List.set_cons_succ])
  refine wpAnyH_take (i := 7) (oi := { dst := some 77, op := Go.Op.pick (Go.Operand.tmp 72) (Go.Operand.const (Go.Value.bool true)) (Go.Operand.tmp 76), type := 4, pos := "more.go:23", after := #[{ on := 2, ground := Go.Ground.data }, { on := 6, ground := Go.Ground.data }], guard := none }) (v := ?vza4) rfl (by kernel_rfl) (by kernel_rfl) (by kernel_rfl) (fun _ _ _ h => h) (Or.inl ⟨by rfl, ?yza4⟩) (by assumption) ?rza4
  case yza4 => (intro w hSw; (try dsimp only at hSw); go_simp; (try with_reducible rfl))
  (try simp only [Act.put, List.setIfInBounds_toArray, List.set_cons_zero, List.set_cons_succ])
  refine wpAnyH_take (i := 8) (oi := { dst := some 78, op := Go.Op.move (Go.Operand.tmp 77), type := 4, pos := "more.go:23", after := #[{ on := 7, ground := Go.Ground.data }, { on := 2, ground := Go.Ground.chain }], guard := none }) (v := ?vza5) rfl (by kernel_rfl) (by kernel_rfl) (by kernel_rfl) (fun _ _ _ h => h) (Or.inl ⟨by rfl, ?yza5⟩) (by assumption) ?rza5
  case yza5 => (intro w hSw; (try dsimp only at hSw); go_simp; (try with_reducible rfl))
  (try simp only [Act.put, List.setIfInBounds_toArray, List.set_cons_zero, List.set_cons_succ])
  refine wpAnyH_take (i := 9) (oi := { dst := some 79, op := Go.Op.move (Go.Operand.tmp 11), type := 23, pos := "more.go:23", after := #[{ on := 8, ground := Go.Ground.guard }], guard := some (8, false) }) (v := undef) rfl (by kernel_rfl) (by kernel_rfl) (by kernel_rfl) (fun _ _ _ h => h) (Or.inr ⟨by rfl, rfl⟩) (by assumption) ?_
  (try simp only [Act.put, List.setIfInBounds_toArray, List.set_cons_zero, List.set_cons_succ])
  refine wpAnyH_take (i := 10) (oi := { dst := some 80, op := Go.Op.move (Go.Operand.tmp 3), type := 3, pos := "more.go:23", after := #[{ on := 8, ground := Go.Ground.guard }], guard := some (8, false) }) (v := undef) rfl (by kernel_rfl) (by kernel_rfl) (by kernel_rfl) (fun _ _ _ h => h) (Or.inr ⟨by rfl, rfl⟩) (by assumption) ?_
  (try simp only [Act.put, List.setIfInBounds_toArray, List.set_cons_zero, List.set_cons_succ])
  refine wpAnyH_take (i := 11) (oi := { dst := some 81, op := Go.Op.indexAddr 23 (Go.Operand.tmp 79) (Go.Operand.tmp 80), type := 0, pos := "more.go:23", after := #[{ on := 9, ground := Go.Ground.data }, { on := 10, ground := Go.Ground.data }, { on := 8, ground := Go.Ground.guard }], guard := some (8, false) }) (v := undef) rfl (by kernel_rfl) (by kernel_rfl) (by kernel_rfl) (fun _ _ _ h => h) (Or.inr ⟨by rfl, rfl⟩) (by assumption) ?_
  (try simp only [Act.put, List.setIfInBounds_toArray, List.set_cons_zero, List.set_cons_succ])
  refine wpAnyH_take (i := 12) (oi := { dst := some 82, op := Go.Op.load 40 (Go.Operand.tmp 81), type := 40, pos := "more.go:23", after := #[{ on := 11, ground := Go.Ground.data }, { on := 8, ground := Go.Ground.guard }], guard := some (8, false) }) (v := undef) rfl (by kernel_rfl) (by kernel_rfl) (by kernel_rfl) (fun _ _ _ h => h) (Or.inr ⟨by rfl, rfl⟩) (by assumption) ?_
  (try simp only [Act.put, List.setIfInBounds_toArray, List.set_cons_zero, List.set_cons_succ])
  refine wpAnyH_take (i := 13) (oi := { dst := some 83, op := Go.Op.move (Go.Operand.tmp 1), type := 23, pos := "more.go:23", after := #[{ on := 8, ground := Go.Ground.guard }], guard := some (8, false) }) (v := undef) rfl (by kernel_rfl) (by kernel_rfl) (by kernel_rfl) (fun _ _ _ h => h) (Or.inr ⟨by rfl, rfl⟩) (by assumption) ?_
  (try simp only [Act.put, List.setIfInBounds_toArray, List.set_cons_zero, List.set_cons_succ])
  refine wpAnyH_take (i := 14) (oi := { dst := some 84, op := Go.Op.move (Go.Operand.tmp 3), type := 3, pos := "more.go:23", after := #[{ on := 8, ground := Go.Ground.guard }], guard := some (8, false) }) (v := undef) rfl (by kernel_rfl) (by kernel_rfl) (by kernel_rfl) (fun _ _ _ h => h) (Or.inr ⟨by rfl, rfl⟩) (by assumption) ?_
  (try simp only [Act.put, List.setIfInBounds_toArray, List.set_cons_zero, List.set_cons_succ])
  refine wpAnyH_take (i := 15) (oi := { dst := some 85, op := Go.Op.indexAddr 23 (Go.Operand.tmp 83) (Go.Operand.tmp 84), type := 0, pos := "more.go:23", after := #[{ on := 13, ground := Go.Ground.data }, { on := 14, ground := Go.Ground.data }, { on := 8, ground := Go.Ground.guard }], guard := some (8, false) }) (v := undef) rfl (by kernel_rfl) (by kernel_rfl) (by kernel_rfl) (fun _ _ _ h => h) (Or.inr ⟨by rfl, rfl⟩) (by assumption) ?_
  (try simp only [Act.put, List.setIfInBounds_toArray, List.set_cons_zero, List.set_cons_succ])
  refine wpAnyH_take (i := 16) (oi := { dst := some 86, op := Go.Op.load 40 (Go.Operand.tmp 85), type := 40, pos := "more.go:23", after := #[{ on := 15, ground := Go.Ground.data }, { on := 8, ground := Go.Ground.guard }], guard := some (8, false) }) (v := undef) rfl (by kernel_rfl) (by kernel_rfl) (by kernel_rfl) (fun _ _ _ h => h) (Or.inr ⟨by rfl, rfl⟩) (by assumption) ?_
  (try simp only [Act.put, List.setIfInBounds_toArray, List.set_cons_zero, List.set_cons_succ])
  refine wpAnyH_take (i := 17) (oi := { dst := some 87, op := Go.Op.binOp Go.BinOp.eql 40 (Go.Operand.tmp 82) (Go.Operand.tmp 86) 40, type := 4, pos := "more.go:23", after := #[{ on := 12, ground := Go.Ground.data }, { on := 16, ground := Go.Ground.data }, { on := 8, ground := Go.Ground.guard }], guard := some (8, false) }) (v := undef) rfl (by kernel_rfl) (by kernel_rfl) (by kernel_rfl) (fun _ _ _ h => h) (Or.inr ⟨by rfl, rfl⟩) (by assumption) ?_
  (try simp only [Act.put, List.setIfInBounds_toArray, List.set_cons_zero, List.set_cons_succ])
  refine wpAnyH_take (i := 18) (oi := { dst := some 88, op := Go.Op.pick (Go.Operand.tmp 78) (Go.Operand.const (Go.Value.bool true)) (Go.Operand.tmp 87), type := 4, pos := "more.go:23", after := #[{ on := 8, ground := Go.Ground.data }, { on := 17, ground := Go.Ground.data }], guard := none }) (v := ?vza6) rfl (by kernel_rfl) (by kernel_rfl) (by kernel_rfl) (fun _ _ _ h => h) (Or.inl ⟨by rfl, ?yza6⟩) (by assumption) ?rza6
  case yza6 => (intro w hSw; (try dsimp only at hSw); go_simp; (try with_reducible rfl))
  (try simp only [Act.put, List.setIfInBounds_toArray, List.set_cons_zero, List.set_cons_succ])
  refine wpAnyH_take (i := 19) (oi := { dst := some 89, op := Go.Op.move (Go.Operand.tmp 88), type := 4, pos := "more.go:23", after := #[{ on := 18, ground := Go.Ground.data }, { on := 8, ground := Go.Ground.chain }], guard := none }) (v := ?vza7) rfl (by kernel_rfl) (by kernel_rfl) (by kernel_rfl) (fun _ _ _ h => h) (Or.inl ⟨by rfl, ?yza7⟩) (by assumption) ?rza7
  case yza7 => (intro w hSw; (try dsimp only at hSw); go_simp; (try with_reducible rfl))
  (try simp only [Act.put, List.setIfInBounds_toArray, List.set_cons_zero, List.set_cons_succ])
  refine wpAnyH_take (i := 20) (oi := { dst := some 90, op := Go.Op.move (Go.Operand.tmp 0), type := 22, pos := "more.go:23", after := #[{ on := 19, ground := Go.Ground.guard }], guard := some (19, true) }) (v := ?vza8) rfl (by kernel_rfl) (by kernel_rfl) (by kernel_rfl) (fun _ _ _ h => h) (Or.inl ⟨by rfl, ?yza8⟩) (by assumption) ?rza8
  case yza8 => (intro w hSw; (try dsimp only at hSw); go_simp; (try with_reducible rfl))
  (try simp only [Act.put, List.setIfInBounds_toArray, List.set_cons_zero, List.set_cons_succ])
  refine wpAnyH_take (i := 21) (oi := { dst := some 91, op := Go.Op.move (Go.Operand.tmp 11), type := 23, pos := "more.go:23", after := #[{ on := 19, ground := Go.Ground.guard }], guard := some (19, true) }) (v := ?vza9) rfl (by kernel_rfl) (by kernel_rfl) (by kernel_rfl) (fun _ _ _ h => h) (Or.inl ⟨by rfl, ?yza9⟩) (by assumption) ?rza9
  case yza9 => (intro w hSw; (try dsimp only at hSw); go_simp; (try with_reducible rfl))
  (try simp only [Act.put, List.setIfInBounds_toArray, List.set_cons_zero, List.set_cons_succ])
  refine wpAnyH_take (i := 23) (oi := { dst := some 93, op := Go.Op.move (Go.Operand.tmp 0), type := 22, pos := "more.go:23", after := #[{ on := 19, ground := Go.Ground.guard }], guard := some (19, true) }) (v := ?vza10) rfl (by kernel_rfl) (by kernel_rfl) (by kernel_rfl) (fun _ _ _ h => h) (Or.inl ⟨by rfl, ?yza10⟩) (by assumption) ?rza10
  case yza10 => (intro w hSw; (try dsimp only at hSw); go_simp; (try with_reducible rfl))
  (try simp only [Act.put, List.setIfInBounds_toArray, List.set_cons_zero, List.set_cons_succ])
  refine wpAnyH_take (i := 24) (oi := { dst := some 94, op := Go.Op.move (Go.Operand.tmp 1), type := 23, pos := "more.go:23", after := #[{ on := 19, ground := Go.Ground.guard }], guard := some (19, true) }) (v := ?vza11) rfl (by kernel_rfl) (by kernel_rfl) (by kernel_rfl) (fun _ _ _ h => h) (Or.inl ⟨by rfl, ?yza11⟩) (by assumption) ?rza11
  case yza11 => (intro w hSw; (try dsimp only at hSw); go_simp; (try with_reducible rfl))
  (try simp only [Act.put, List.setIfInBounds_toArray, List.set_cons_zero, List.set_cons_succ])
  refine wpAnyH_take (i := 26) (oi := { dst := some 96, op := Go.Op.move (Go.Operand.tmp 0), type := 22, pos := "more.go:23", after := #[{ on := 19, ground := Go.Ground.guard }], guard := some (19, true) }) (v := ?vza12) rfl (by kernel_rfl) (by kernel_rfl) (by kernel_rfl) (fun _ _ _ h => h) (Or.inl ⟨by rfl, ?yza12⟩) (by assumption) ?rza12
  case yza12 => (intro w hSw; (try dsimp only at hSw); go_simp; (try with_reducible rfl))
  (try simp only [Act.put, List.setIfInBounds_toArray, List.set_cons_zero, List.set_cons_succ])
  refine wpAnyH_take (i := 27) (oi := { dst := some 97, op := Go.Op.move (Go.Operand.tmp 2), type := 3, pos := "more.go:23", after := #[{ on := 19, ground := Go.Ground.guard }], guard := some (19, true) }) (v := ?vza13) rfl (by kernel_rfl) (by kernel_rfl) (by kernel_rfl) (fun _ _ _ h => h) (Or.inl ⟨by rfl, ?yza13⟩) (by assumption) ?rza13
  case yza13 => (intro w hSw; (try dsimp only at hSw); go_simp; (try with_reducible rfl))
  (try simp only [Act.put, List.setIfInBounds_toArray, List.set_cons_zero, List.set_cons_succ])
  refine wpAnyH_take (i := 28) (oi := { dst := some 98, op := Go.Op.indexAddr 22 (Go.Operand.tmp 96) (Go.Operand.tmp 97), type := 0, pos := "more.go:23", after := #[{ on := 26, ground := Go.Ground.data }, { on := 27, ground := Go.Ground.data }, { on := 19, ground := Go.Ground.guard }], guard := some (19, true) }) (v := ?vza14) rfl (by kernel_rfl) (by kernel_rfl) (by kernel_rfl) (fun _ _ _ h => h) (Or.inl ⟨by rfl, ?yza14⟩) (by assumption) ?rza14
  case yza14 => (intro w hSw; (try dsimp only at hSw); go_simp; (try with_reducible rfl))
  (try simp only [Act.put, List.setIfInBounds_toArray, List.set_cons_zero, List.set_cons_succ])
  refine wpAnyH_take (i := 29) (oi := { dst := some 99, op := Go.Op.fieldAddr 37 (Go.Operand.tmp 98) 0, type := 0, pos := "more.go:23", after := #[{ on := 28, ground := Go.Ground.data }, { on := 19, ground := Go.Ground.guard }], guard := some (19, true) }) (v := ?vza15) rfl (by kernel_rfl) (by kernel_rfl) (by kernel_rfl) (fun _ _ _ h => h) (Or.inl ⟨by rfl, ?yza15⟩) (by assumption) ?rza15
  case yza15 => (intro w hSw; (try dsimp only at hSw); go_simp; (try with_reducible rfl))
  (try simp only [Act.put, List.setIfInBounds_toArray, List.set_cons_zero, List.set_cons_succ])
  refine wpAnyH_take (i := 30) (oi := { dst := some 100, op := Go.Op.load 3 (Go.Operand.tmp 99), type := 3, pos := "more.go:23", after := #[{ on := 29, ground := Go.Ground.data }, { on := 19, ground := Go.Ground.guard }], guard := some (19, true) }) (v := ?vza16) rfl (by kernel_rfl) (by kernel_rfl) (by kernel_rfl) (fun _ _ _ h => h) (Or.inl ⟨by rfl, ?yza16⟩) (by assumption) ?rza16
  case yza16 => (intro w hSw; (try dsimp only at hSw); go_simp; (try with_reducible rfl))
  (try simp only [Act.put, List.setIfInBounds_toArray, List.set_cons_zero, List.set_cons_succ])
  refine wpAnyH_take (i := 32) (oi := { dst := some 102, op := Go.Op.move (Go.Operand.tmp 0), type := 22, pos := "more.go:23", after := #[{ on := 19, ground := Go.Ground.guard }], guard := some (19, true) }) (v := ?vza17) rfl (by kernel_rfl) (by kernel_rfl) (by kernel_rfl) (fun _ _ _ h => h) (Or.inl ⟨by rfl, ?yza17⟩) (by assumption) ?rza17
  case yza17 => (intro w hSw; (try dsimp only at hSw); go_simp; (try with_reducible rfl))
  (try simp only [Act.put, List.setIfInBounds_toArray, List.set_cons_zero, List.set_cons_succ])
  refine wpAnyH_take (i := 33) (oi := { dst := some 103, op := Go.Op.move (Go.Operand.tmp 2), type := 3, pos := "more.go:23", after := #[{ on := 19, ground := Go.Ground.guard }], guard := some (19, true) }) (v := ?vza18) rfl (by kernel_rfl) (by kernel_rfl) (by kernel_rfl) (fun _ _ _ h => h) (Or.inl ⟨by rfl, ?yza18⟩) (by assumption) ?rza18
  case yza18 => (intro w hSw; (try dsimp only at hSw); go_simp; (try with_reducible rfl))
  (try simp only [Act.put, List.setIfInBounds_toArray, List.set_cons_zero, List.set_cons_succ])
  refine wpAnyH_take (i := 34) (oi := { dst := some 104, op := Go.Op.indexAddr 22 (Go.Operand.tmp 102) (Go.Operand.tmp 103), type := 0, pos := "more.go:23", after := #[{ on := 32, ground := Go.Ground.data }, { on := 33, ground := Go.Ground.data }, { on := 19, ground := Go.Ground.guard }], guard := some (19, true) }) (v := ?vza19) rfl (by kernel_rfl) (by kernel_rfl) (by kernel_rfl) (fun _ _ _ h => h) (Or.inl ⟨by rfl, ?yza19⟩) (by assumption) ?rza19
  case yza19 => (intro w hSw; (try dsimp only at hSw); go_simp; (try with_reducible rfl))
  (try simp only [Act.put, List.setIfInBounds_toArray, List.set_cons_zero, List.set_cons_succ])
  refine wpAnyH_take (i := 35) (oi := { dst := some 105, op := Go.Op.fieldAddr 37 (Go.Operand.tmp 104) 1, type := 0, pos := "more.go:23", after := #[{ on := 34, ground := Go.Ground.data }, { on := 19, ground := Go.Ground.guard }], guard := some (19, true) }) (v := ?vza20) rfl (by kernel_rfl) (by kernel_rfl) (by kernel_rfl) (fun _ _ _ h => h) (Or.inl ⟨by rfl, ?yza20⟩) (by assumption) ?rza20
  case yza20 => (intro w hSw; (try dsimp only at hSw); go_simp; (try with_reducible rfl))
  (try simp only [Act.put, List.setIfInBounds_toArray, List.set_cons_zero, List.set_cons_succ])
  refine wpAnyH_take (i := 36) (oi := { dst := some 106, op := Go.Op.load 35 (Go.Operand.tmp 105), type := 35, pos := "more.go:23", after := #[{ on := 35, ground := Go.Ground.data }, { on := 19, ground := Go.Ground.guard }], guard := some (19, true) }) (v := ?vza21) rfl (by kernel_rfl) (by kernel_rfl) (by kernel_rfl) (fun _ _ _ h => h) (Or.inl ⟨by rfl, ?yza21⟩) (by assumption) ?rza21
  case yza21 => (intro w hSw; (try dsimp only at hSw); go_simp; (try with_reducible rfl))
  (try simp only [Act.put, List.setIfInBounds_toArray, List.set_cons_zero, List.set_cons_succ])
  refine wpAnyH_take (i := 37) (oi := { dst := some 107, op := Go.Op.call { callee := Go.Callee.builtin Go.Builtin.len, args := #[Go.Operand.tmp 106], argTypes := #[35] }, type := 3, pos := "more.go:23", after := #[{ on := 36, ground := Go.Ground.data }, { on := 19, ground := Go.Ground.guard }], guard := some (19, true) }) (v := ?vza22) rfl (by kernel_rfl) (by kernel_rfl) (by kernel_rfl) (fun _ _ _ h => h) (Or.inl ⟨by rfl, ?yza22⟩) (by assumption) ?rza22
  case yza22 => (intro w hSw; (try dsimp only at hSw); go_simp; (try with_reducible rfl))
  (try simp only [Act.put, List.setIfInBounds_toArray, List.set_cons_zero, List.set_cons_succ])
  refine wpAnyH_ready (rs := [22]) (by kernel_rfl) (by simp) ?_
  refine (AllReadyH.cons (o := { dst := some 92, op := Go.Op.call { callee := Go.Callee.value (Go.Operand.func 19), args := #[Go.Operand.tmp 90, Go.Operand.tmp 91], argTypes := #[22, 23] }, type := 3, pos := "more.go:23", after := #[{ on := 20, ground := Go.Ground.data }, { on := 21, ground := Go.Ground.data }, { on := 19, ground := Go.Ground.chain }, { on := 19, ground := Go.Ground.guard }], guard := some (19, true) }) rfl (fun K hK => ?_) AllReadyH.nil)
  go_simp
  refine (kleft (HT.out.later ZC.out) (HX.out.later ZC.out) SM.out HLT.out HM.out (by omega) G3.out).mono ?_
  rintro e wz ⟨rfl, zb⟩
  go_wp2_with fail
  replace ZC := Lib.hid (keep_call (w2 := w4) zb ZC.out)
  clear zb
  refine hK.out _ _ (HK.out _ ZC.out) (fun hHeld2 => ?_)
  clear hK K hHeld
  have hHeld := hHeld2
  clear hHeld2
  (try simp only [Act.put, List.setIfInBounds_toArray, List.set_cons_zero, List.set_cons_succ])
  refine wpAnyH_ready (rs := [25]) (by kernel_rfl) (by simp) ?_
  refine (AllReadyH.cons (o := { dst := some 95, op := Go.Op.call { callee := Go.Callee.value (Go.Operand.func 19), args := #[Go.Operand.tmp 93, Go.Operand.tmp 94], argTypes := #[22, 23] }, type := 3, pos := "more.go:23", after := #[{ on := 23, ground := Go.Ground.data }, { on := 24, ground := Go.Ground.data }, { on := 22, ground := Go.Ground.chain }, { on := 19, ground := Go.Ground.guard }], guard := some (19, true) }) rfl (fun K hK => ?_) AllReadyH.nil)
  go_simp
  refine (kleft (HT.out.later ZC.out) (HS.out.later ZC.out) SM.out HLT.out HNS.out (by omega) HQ0.out).mono ?_
  rintro e wz ⟨rfl, zb⟩
  go_wp2_with fail
  replace ZC := Lib.hid (keep_call (w2 := w4) zb ZC.out)
  clear zb
  refine hK.out _ _ (HK.out _ ZC.out) (fun hHeld2 => ?_)
  clear hK K hHeld
  have hHeld := hHeld2
  clear hHeld2
  (try simp only [Act.put, List.setIfInBounds_toArray, List.set_cons_zero, List.set_cons_succ])
  refine wpAnyH_take (i := 31) (oi := { dst := some 101, op := Go.Op.binOp Go.BinOp.add 3 (Go.Operand.tmp 95) (Go.Operand.tmp 100) 3, type := 3, pos := "more.go:23", after := #[{ on := 25, ground := Go.Ground.data }, { on := 30, ground := Go.Ground.data }, { on := 19, ground := Go.Ground.guard }], guard := some (19, true) }) (v := ?vza23) rfl (by kernel_rfl) (by kernel_rfl) (by kernel_rfl) (fun _ _ _ h => h) (Or.inl ⟨by rfl, ?yza23⟩) (by assumption) ?rza23
  case yza23 => (intro w hSw; (try dsimp only at hSw); go_simp; (try with_reducible rfl))
  (try simp only [Act.put, List.setIfInBounds_toArray, List.set_cons_zero, List.set_cons_succ])
  refine wpAnyH_take (i := 38) (oi := { dst := some 108, op := Go.Op.binOp Go.BinOp.add 3 (Go.Operand.tmp 101) (Go.Operand.tmp 107) 3, type := 3, pos := "more.go:23", after := #[{ on := 31, ground := Go.Ground.data }, { on := 37, ground := Go.Ground.data }, { on := 19, ground := Go.Ground.guard }], guard := some (19, true) }) (v := ?vza24) rfl (by kernel_rfl) (by kernel_rfl) (by kernel_rfl) (fun _ _ _ h => h) (Or.inl ⟨by rfl, ?yza24⟩) (by assumption) ?rza24
  case yza24 => (intro w hSw; (try dsimp only at hSw); go_simp; (try with_reducible rfl))
  (try simp only [Act.put, List.setIfInBounds_toArray, List.set_cons_zero, List.set_cons_succ])
  refine wpAnyH_take (i := 39) (oi := { dst := some 109, op := Go.Op.binOp Go.BinOp.add 3 (Go.Operand.tmp 108) (Go.Operand.const (Go.Value.int Go.IntKind.i64 1)) 3, type := 3, pos := "more.go:23", after := #[{ on := 38, ground := Go.Ground.data }, { on := 19, ground := Go.Ground.guard }], guard := some (19, true) }) (v := ?vza25) rfl (by kernel_rfl) (by kernel_rfl) (by kernel_rfl) (fun _ _ _ h => h) (Or.inl ⟨by rfl, ?yza25⟩) (by assumption) ?rza25
  case yza25 => (intro w hSw; (try dsimp only at hSw); go_simp; (try with_reducible rfl))
  (try simp only [Act.put, List.setIfInBounds_toArray, List.set_cons_zero, List.set_cons_succ])
  refine wpAnyH_take (i := 40) (oi := { dst := some 110, op := Go.Op.binOp Go.BinOp.eql 3 (Go.Operand.tmp 92) (Go.Operand.tmp 109) 3, type := 4, pos := "more.go:23", after := #[{ on := 22, ground := Go.Ground.data }, { on := 39, ground := Go.Ground.data }, { on := 19, ground := Go.Ground.guard }], guard := some (19, true) }) (v := ?vza26) rfl (by kernel_rfl) (by kernel_rfl) (by kernel_rfl) (fun _ _ _ h => h) (Or.inl ⟨by rfl, ?yza26⟩) (by assumption) ?rza26
  case yza26 => (intro w hSw; (try dsimp only at hSw); go_simp; (try with_reducible rfl))
  (try simp only [Act.put, List.setIfInBounds_toArray, List.set_cons_zero, List.set_cons_succ])
  refine wpAnyH_take (i := 41) (oi := { dst := some 111, op := Go.Op.pick (Go.Operand.tmp 89) (Go.Operand.tmp 110) (Go.Operand.const (Go.Value.bool false)), type := 4, pos := "more.go:23", after := #[{ on := 19, ground := Go.Ground.data }, { on := 40, ground := Go.Ground.data }], guard := none }) (v := ?vza27) rfl (by kernel_rfl) (by kernel_rfl) (by kernel_rfl) (fun _ _ _ h => h) (Or.inl ⟨by rfl, ?yza27⟩) (by assumption) ?rza27
  case yza27 => (intro w hSw; (try dsimp only at hSw); go_simp; (try with_reducible rfl))
  (try simp only [Act.put, List.setIfInBounds_toArray, List.set_cons_zero, List.set_cons_succ])
  refine wpAnyH_take (i := 42) (oi := { dst := some 8, op := Go.Op.assign (Go.Operand.tmp 111), type := 4, pos := "more.go:23", after := #[{ on := 41, ground := Go.Ground.data }, { on := 25, ground := Go.Ground.chain }, { on := 0, ground := Go.Ground.phase }, { on := 1, ground := Go.Ground.phase }, { on := 2, ground := Go.Ground.phase }, { on := 3, ground := Go.Ground.phase }, { on := 4, ground := Go.Ground.phase }, { on := 5, ground := Go.Ground.phase }, { on := 6, ground := Go.Ground.phase }, { on := 7, ground := Go.Ground.phase }, { on := 8, ground := Go.Ground.phase }, { on := 9, ground := Go.Ground.phase }, { on := 10, ground := Go.Ground.phase }, { on := 11, ground := Go.Ground.phase }, { on := 12, ground := Go.Ground.phase }, { on := 13, ground := Go.Ground.phase }, { on := 14, ground := Go.Ground.phase }, { on := 15, ground := Go.Ground.phase }, { on := 16, ground := Go.Ground.phase }, { on := 17, ground := Go.Ground.phase }, { on := 18, ground := Go.Ground.phase }, { on := 19, ground := Go.Ground.phase }, { on := 20, ground := Go.Ground.phase }, { on := 21, ground := Go.Ground.phase }, { on := 22, ground := Go.Ground.phase }, { on := 23, ground := Go.Ground.phase }, { on := 24, ground := Go.Ground.phase }, { on := 25, ground := Go.Ground.phase }, { on := 26, ground := Go.Ground.phase }, { on := 27, ground := Go.Ground.phase }, { on := 28, ground := Go.Ground.phase }, { on := 29, ground := Go.Ground.phase }, { on := 30, ground := Go.Ground.phase }, { on := 31, ground := Go.Ground.phase }, { on := 32, ground := Go.Ground.phase }, { on := 33, ground := Go.Ground.phase }, { on := 34, ground := Go.Ground.phase }, { on := 35, ground := Go.Ground.phase }, { on := 36, ground := Go.Ground.phase }, { on := 37, ground := Go.Ground.phase }, { on := 38, ground := Go.Ground.phase }, { on := 39, ground := Go.Ground.phase }, { on := 40, ground := Go.Ground.phase }, { on := 41, ground := Go.Ground.phase }], guard := none }) (v := ?vza28) rfl (by kernel_rfl) (by kernel_rfl) (by kernel_rfl) (fun _ _ _ h => h) (Or.inl ⟨by rfl, ?yza28⟩) (by assumption) ?rza28
  case yza28 => (intro w hSw; (try dsimp only at hSw); go_simp; (try with_reducible rfl))
  (try simp only [Act.put, List.setIfInBounds_toArray, List.set_cons_zero, List.set_cons_succ])
  refine wpAnyH_done (by kernel_rfl) ?_ _
  go_wp2
  go_ret
  exact ⟨by simp [HWR.out], Z.out.trans (ZC.out.mono Z.out.size)⟩
set_option maxRecDepth 100000 in
set_option maxHeartbeats 4000000 in
theorem start_high (A S : Option Addr) (c lt cS nS : Nat) (T : List Tsk) (lS : List Itm) (k : Int) (i : Int) (w : World) (hT : Tk w.heap.size w A T) (htl : T.length ≤ maxLen) (hkl : ∀ x ∈ T, x.2.length ≤ maxLen) (hlt : T.length = lt) (hS : Ir w.heap.size w S lS) (hnS : lS.length = nS) (hmS : nS ≤ maxLen) (hcS : nS ≤ cS) (hdS : cS ≤ maxLen) (heS : S = none → cS = 0) (hfew : few T = true) (hlS : nS ≤ 40) (hmay : mayS T lS = true) (hk0 : 0 ≤ k) (hk : k < (lt : Int)) (hi : (nS : Int) ≤ i) (hi0 : 0 ≤ i) : Tells 6 #[.slice A lt c, .slice S nS cS, .int .i64 k, .int .i64 i] w (.bool true) := by
  have SM := Lib.hid (few_sm hfew)
  have hlS1 : ¬ 40 < nS := by omega
  obtain ⟨u, rfl⟩ := Int.eq_ofNat_of_zero_le hk0
  have hu : u < T.length := by omega
  obtain ⟨g1, g2, g3⟩ := start_S hmay hk0 (by rw [hlt]; exact hk)
  rw [wkA_at hu, kdA_at hu] at g3
  obtain ⟨q, hq0⟩ : ∃ q, leftS T lS = q := ⟨_, rfl⟩
  have hb := leftS_le (few_sm hfew) hmay
  have hw := wk_at (may_parts (mayS_all hmay).1).2.1 hu
  have hkl2 := (few_sm hfew).at hu
  have hq1 : 0 ≤ q := by rw [← hq0]; unfold leftS; rw [if_pos hmay]; have := leftN_ge (mayS_all hmay).2; omega
  rw [hq0] at hb g3
  rw [hnS] at hb
  have hm : (lS ++ [((u : Int), (0 : Int), (0 : Int))]).length = nS + 1 := by simp [hnS]
  have hlast : (lS ++ [((u : Int), (0 : Int), (0 : Int))])[nS]? = some ((u : Int), 0, 0) := by rw [List.getElem?_append_right (by omega), show nS - lS.length = 0 by omega]; rfl
  have hp := ie_yes (x := ((u : Int), (0 : Int), (0 : Int))) (y := ((u : Int), (0 : Int), (0 : Int))) rfl
  simp only at hp
  have G1 := Lib.hid g1
  have G2 := Lib.hid g2
  have G3 := Lib.hid g3
  have HQ0 := Lib.hid hq0
  have HM := Lib.hid hm
  have HLA := Lib.hid hlast
  have HU := Lib.hid hu
  clear g1 g2 g3 hq0 hm hlast
  have HT := Lib.hid hT
  have HLT := Lib.hid hlt
  have HKL := Lib.hid hkl
  have Z := Lib.hid (Below.refl w.heap.size w)
  have HS := Lib.hid hS
  have HNS := Lib.hid hnS
  have HES := Lib.hid heS
  unfold maxLen at hmS hdS
  clear hT hlt hkl hS hnS heS
  go_enter Try.func6, Try.ntmps6
  go_wp2_with fail
  refine (awake_any w).mono ?_
  rintro _ w1 ⟨rfl, zz⟩
  replace HT := Lib.hid (HT.out.later zz)
  replace HS := Lib.hid (HS.out.later zz)
  replace Z := Lib.hid (Z.out.trans (zz.mono Z.out.size))
  clear zz
  go_wp2_with fail
  refine (kfew w1 HT.out htl HKL.out HLT.out hfew).mono ?_
  rintro _ w2 ⟨rfl, ew⟩
  subst ew
  go_wp2_with fail
  refine (kmay HT.out HS.out SM.out HLT.out HNS.out (by omega) hmay).mono ?_
  rintro _ w2 ⟨rfl, zz⟩
  replace HT := Lib.hid (HT.out.later zz)
  replace HS := Lib.hid (HS.out.later zz)
  replace Z := Lib.hid (Z.out.trans (zz.mono Z.out.size))
  clear zz
  go_wp2_with fail
  refine (kstart HT.out HS.out SM.out HLT.out HNS.out (by omega) G1.out HM.out).mono ?_
  rintro _ w3 ⟨X, cX, rfl, hX, _, _, zz⟩
  replace HT := Lib.hid (HT.out.later zz)
  replace HS := Lib.hid (HS.out.later zz)
  have HX := Lib.hid hX
  replace Z := Lib.hid (Z.out.trans (zz.mono Z.out.size))
  clear zz hX
  obtain ⟨bX, oX, rfl, hbX, fX⟩ := HX.out (by rw [HM.out]; omega)
  have FX := Lib.hid fX
  clear fX
  go_wp2_with fail
  refine (kmay HT.out HX.out SM.out HLT.out HM.out (by omega) G2.out).mono ?_
  rintro _ w4 ⟨rfl, zz⟩
  replace HT := Lib.hid (HT.out.later zz)
  replace HS := Lib.hid (HS.out.later zz)
  replace HX := Lib.hid (HX.out.later zz)
  replace Z := Lib.hid (Z.out.trans (zz.mono Z.out.size))
  clear zz
  obtain ⟨bX2, oX2, eX, hbX2, fX⟩ := HX.out (by rw [HM.out]; omega)
  cases eX
  obtain ⟨x0, x1, x2⟩ := fX nS _ HLA.out
  simp only at x0 x1 x2
  go_upto_region 10 with fail
  obtain ⟨bT, oT, KT, cT, rfl, hbT, t0, t1, _⟩ := HT.out.at HU.out
  generalize T[u].1 = W at *
  generalize T[u].2.length = L at *
  clear fX
  have HWR := Lib.hid (show IntKind.i64.wrap (IntKind.i64.wrap (IntKind.i64.wrap (q + W) + L) + 1) = q + W + L + 1 by simp only [IntKind.wrap_i64]; omega)
  have d0 : decide (i < 0) = false := decide_eq_false (by omega)
  have d1 : decide ((nS : Int) ≤ i) = true := decide_eq_true (by omega)
  have HK := Lib.hid (show ∀ x', Below w4.heap.size w4 x' → (fun w' => w'.cell? ⟨bT, oT + u * 2, none⟩ = some (.int .i64 W) ∧ w'.cell? ⟨bT, oT + u * 2 + 1, none⟩ = some (.slice KT L cT) ∧ Below w4.heap.size w4 w') x' from fun x' hx => by
    exact ⟨(hx.cell (p := ⟨bT, oT + u * 2, none⟩) hbT).trans t0, (hx.cell (p := ⟨bT, oT + u * 2 + 1, none⟩) hbT).trans t1, hx⟩)
  have hHeld0 := HK.out _ (Below.refl _ _)
  have ZC := Lib.hid (Below.refl w4.heap.size w4).drew
  refine wp_region_held_drew (S := fun w' => w'.cell? ⟨bT, oT + u * 2, none⟩ = some (.int .i64 W) ∧ w'.cell? ⟨bT, oT + u * 2 + 1, none⟩ = some (.slice KT L cT) ∧ Below w4.heap.size w4 w') (by kernel_rfl) (hd_drew HK.out (fun _ h => h.2.2) hHeld0) (fun hHeld => ?_)
  refine wpAnyH_take (i := 0) (oi := { dst := some 70, op := Go.Op.move (Go.Operand.tmp 3), type := 3, pos := "more.go:23", after := #[], guard := none }) (v := ?vzb1) rfl (by kernel_rfl) (by kernel_rfl) (by kernel_rfl) (fun _ _ _ h => h) (Or.inl ⟨by rfl, ?yzb1⟩) (by assumption) ?rzb1
  case yzb1 => (intro w hSw; (try dsimp only at hSw); go_simp; (try with_reducible rfl))
  (try simp only [Act.put, List.setIfInBounds_toArray, List.set_cons_zero, List.set_cons_succ])
  refine wpAnyH_take (i := 1) (oi := { dst := some 71, op := Go.Op.binOp Go.BinOp.lss 3 (Go.Operand.tmp 70) (Go.Operand.const (Go.Value.int Go.IntKind.i64 0)) 3, type := 4, pos := "more.go:23", after := #[{ on := 0, ground := Go.Ground.data }], guard := none }) (v := ?vzb2) rfl (by kernel_rfl) (by kernel_rfl) (by kernel_rfl) (fun _ _ _ h => h) (Or.inl ⟨by rfl, ?yzb2⟩) (by assumption) ?rzb2
  case yzb2 => (intro w hSw; (try dsimp only at hSw); go_simp; (try with_reducible rfl))
  (try simp only [Act.put, List.setIfInBounds_toArray, List.set_cons_zero, List.set_cons_succ])
  refine wpAnyH_take (i := 2) (oi := { dst := some 72, op := Go.Op.move (Go.Operand.tmp 71), type := 4, pos := "more.go:23", after := #[{ on := 1, ground := Go.Ground.data }], guard := none }) (v := ?vzb3) rfl (by kernel_rfl) (by kernel_rfl) (by kernel_rfl) (fun _ _ _ h => h) (Or.inl ⟨by rfl, ?yzb3⟩) (by assumption) ?rzb3
  case yzb3 => (intro w hSw; (try dsimp only at hSw); go_simp; (try with_reducible rfl))
  (try simp only [Act.put, List.setIfInBounds_toArray, List.set_cons_zero, List.set_cons_succ])
  refine wpAnyH_take (i := 3) (oi := { dst := some 73, op := Go.Op.move (Go.Operand.tmp 3), type := 3, pos := "more.go:23", after := #[{ on := 2, ground := Go.Ground.guard }], guard := some (2, false) }) (v := ?vzb4) rfl (by kernel_rfl) (by kernel_rfl) (by kernel_rfl) (fun _ _ _ h => h) (Or.inl ⟨by rfl, ?yzb4⟩) (by assumption) ?rzb4
  case yzb4 => (intro w hSw; (try dsimp only at hSw); go_simp; (try with_reducible rfl))
  (try simp only [Act.put, List.setIfInBounds_toArray, List.set_cons_zero, List.set_cons_succ])
  refine wpAnyH_take (i := 4) (oi := { dst := some 74, op := Go.Op.move (Go.Operand.tmp 1), type := 23, pos := "more.go:23", after := #[{ on := 2, ground := Go.Ground.guard }], guard := some (2, false) }) (v := ?vzb5) rfl (by kernel_rfl) (by kernel_rfl) (by kernel_rfl) (fun _ _ _ h => h) (Or.inl ⟨by rfl, ?yzb5⟩) (by assumption) ?rzb5
  case yzb5 => (intro w hSw; (try dsimp only at hSw); go_simp; (try with_reducible rfl))
  (try simp only [Act.put, List.setIfInBounds_toArray, List.set_cons_zero, List.set_cons_succ])
  refine wpAnyH_take (i := 5) (oi := { dst := some 75, op := Go.Op.call { callee := Go.Callee.builtin Go.Builtin.len, args := #[Go.Operand.tmp 74], argTypes := #[23] }, type := 3, pos := "more.go:23", after := #[{ on := 4, ground := Go.Ground.data }, { on := 2, ground := Go.Ground.guard }], guard := some (2, false) }) (v := ?vzb6) rfl (by kernel_rfl) (by kernel_rfl) (by kernel_rfl) (fun _ _ _ h => h) (Or.inl ⟨by rfl, ?yzb6⟩) (by assumption) ?rzb6
  case yzb6 => (intro w hSw; (try dsimp only at hSw); go_simp; (try with_reducible rfl))
  (try simp only [Act.put, List.setIfInBounds_toArray, List.set_cons_zero, List.set_cons_succ])
  refine wpAnyH_take (i := 6) (oi := { dst := some 76, op := Go.Op.binOp Go.BinOp.geq 3 (Go.Operand.tmp 73) (Go.Operand.tmp 75) 3, type := 4, pos := "more.go:23", after := #[{ on := 3, ground := Go.Ground.data }, { on := 5, ground := Go.Ground.data }, { on := 2, ground := Go.Ground.guard }], guard := some (2, false) }) (v := ?vzb7) rfl (by kernel_rfl) (by kernel_rfl) (by kernel_rfl) (fun _ _ _ h => h) (Or.inl ⟨by rfl, ?yzb7⟩) (by assumption) ?rzb7
  case yzb7 => (intro w hSw; (try dsimp only at hSw); go_simp; (try with_reducible rfl))
  (try simp only [Act.put, List.setIfInBounds_toArray, List.set_cons_zero, List.set_cons_succ])
  refine wpAnyH_take (i := 7) (oi := { dst := some 77, op := Go.Op.pick (Go.Operand.tmp 72) (Go.Operand.const (Go.Value.bool true)) (Go.Operand.tmp 76), type := 4, pos := "more.go:23", after := #[{ on := 2, ground := Go.Ground.data }, { on := 6, ground := Go.Ground.data }], guard := none }) (v := ?vzb8) rfl (by kernel_rfl) (by kernel_rfl) (by kernel_rfl) (fun _ _ _ h => h) (Or.inl ⟨by rfl, ?yzb8⟩) (by assumption) ?rzb8
  case yzb8 => (intro w hSw; (try dsimp only at hSw); go_simp; (try with_reducible rfl))
  (try simp only [Act.put, List.setIfInBounds_toArray, List.set_cons_zero, List.set_cons_succ])
  refine wpAnyH_take (i := 8) (oi := { dst := some 78, op := Go.Op.move (Go.Operand.tmp 77), type := 4, pos := "more.go:23", after := #[{ on := 7, ground := Go.Ground.data }, { on := 2, ground := Go.Ground.chain }], guard := none }) (v := ?vzb9) rfl (by kernel_rfl) (by kernel_rfl) (by kernel_rfl) (fun _ _ _ h => h) (Or.inl ⟨by rfl, ?yzb9⟩) (by assumption) ?rzb9
  case yzb9 => (intro w hSw; (try dsimp only at hSw); go_simp; (try with_reducible rfl))
  (try simp only [Act.put, List.setIfInBounds_toArray, List.set_cons_zero, List.set_cons_succ])
  refine wpAnyH_take (i := 9) (oi := { dst := some 79, op := Go.Op.move (Go.Operand.tmp 11), type := 23, pos := "more.go:23", after := #[{ on := 8, ground := Go.Ground.guard }], guard := some (8, false) }) (v := undef) rfl (by kernel_rfl) (by kernel_rfl) (by kernel_rfl) (fun _ _ _ h => h) (Or.inr ⟨by rfl, rfl⟩) (by assumption) ?_
  (try simp only [Act.put, List.setIfInBounds_toArray, List.set_cons_zero, List.set_cons_succ])
  refine wpAnyH_take (i := 10) (oi := { dst := some 80, op := Go.Op.move (Go.Operand.tmp 3), type := 3, pos := "more.go:23", after := #[{ on := 8, ground := Go.Ground.guard }], guard := some (8, false) }) (v := undef) rfl (by kernel_rfl) (by kernel_rfl) (by kernel_rfl) (fun _ _ _ h => h) (Or.inr ⟨by rfl, rfl⟩) (by assumption) ?_
  (try simp only [Act.put, List.setIfInBounds_toArray, List.set_cons_zero, List.set_cons_succ])
  refine wpAnyH_take (i := 11) (oi := { dst := some 81, op := Go.Op.indexAddr 23 (Go.Operand.tmp 79) (Go.Operand.tmp 80), type := 0, pos := "more.go:23", after := #[{ on := 9, ground := Go.Ground.data }, { on := 10, ground := Go.Ground.data }, { on := 8, ground := Go.Ground.guard }], guard := some (8, false) }) (v := undef) rfl (by kernel_rfl) (by kernel_rfl) (by kernel_rfl) (fun _ _ _ h => h) (Or.inr ⟨by rfl, rfl⟩) (by assumption) ?_
  (try simp only [Act.put, List.setIfInBounds_toArray, List.set_cons_zero, List.set_cons_succ])
  refine wpAnyH_take (i := 12) (oi := { dst := some 82, op := Go.Op.load 40 (Go.Operand.tmp 81), type := 40, pos := "more.go:23", after := #[{ on := 11, ground := Go.Ground.data }, { on := 8, ground := Go.Ground.guard }], guard := some (8, false) }) (v := undef) rfl (by kernel_rfl) (by kernel_rfl) (by kernel_rfl) (fun _ _ _ h => h) (Or.inr ⟨by rfl, rfl⟩) (by assumption) ?_
  (try simp only [Act.put, List.setIfInBounds_toArray, List.set_cons_zero, List.set_cons_succ])
  refine wpAnyH_take (i := 13) (oi := { dst := some 83, op := Go.Op.move (Go.Operand.tmp 1), type := 23, pos := "more.go:23", after := #[{ on := 8, ground := Go.Ground.guard }], guard := some (8, false) }) (v := undef) rfl (by kernel_rfl) (by kernel_rfl) (by kernel_rfl) (fun _ _ _ h => h) (Or.inr ⟨by rfl, rfl⟩) (by assumption) ?_
  (try simp only [Act.put, List.setIfInBounds_toArray, List.set_cons_zero, List.set_cons_succ])
  refine wpAnyH_take (i := 14) (oi := { dst := some 84, op := Go.Op.move (Go.Operand.tmp 3), type := 3, pos := "more.go:23", after := #[{ on := 8, ground := Go.Ground.guard }], guard := some (8, false) }) (v := undef) rfl (by kernel_rfl) (by kernel_rfl) (by kernel_rfl) (fun _ _ _ h => h) (Or.inr ⟨by rfl, rfl⟩) (by assumption) ?_
  (try simp only [Act.put, List.setIfInBounds_toArray, List.set_cons_zero, List.set_cons_succ])
  refine wpAnyH_take (i := 15) (oi := { dst := some 85, op := Go.Op.indexAddr 23 (Go.Operand.tmp 83) (Go.Operand.tmp 84), type := 0, pos := "more.go:23", after := #[{ on := 13, ground := Go.Ground.data }, { on := 14, ground := Go.Ground.data }, { on := 8, ground := Go.Ground.guard }], guard := some (8, false) }) (v := undef) rfl (by kernel_rfl) (by kernel_rfl) (by kernel_rfl) (fun _ _ _ h => h) (Or.inr ⟨by rfl, rfl⟩) (by assumption) ?_
  (try simp only [Act.put, List.setIfInBounds_toArray, List.set_cons_zero, List.set_cons_succ])
  refine wpAnyH_take (i := 16) (oi := { dst := some 86, op := Go.Op.load 40 (Go.Operand.tmp 85), type := 40, pos := "more.go:23", after := #[{ on := 15, ground := Go.Ground.data }, { on := 8, ground := Go.Ground.guard }], guard := some (8, false) }) (v := undef) rfl (by kernel_rfl) (by kernel_rfl) (by kernel_rfl) (fun _ _ _ h => h) (Or.inr ⟨by rfl, rfl⟩) (by assumption) ?_
  (try simp only [Act.put, List.setIfInBounds_toArray, List.set_cons_zero, List.set_cons_succ])
  refine wpAnyH_take (i := 17) (oi := { dst := some 87, op := Go.Op.binOp Go.BinOp.eql 40 (Go.Operand.tmp 82) (Go.Operand.tmp 86) 40, type := 4, pos := "more.go:23", after := #[{ on := 12, ground := Go.Ground.data }, { on := 16, ground := Go.Ground.data }, { on := 8, ground := Go.Ground.guard }], guard := some (8, false) }) (v := undef) rfl (by kernel_rfl) (by kernel_rfl) (by kernel_rfl) (fun _ _ _ h => h) (Or.inr ⟨by rfl, rfl⟩) (by assumption) ?_
  (try simp only [Act.put, List.setIfInBounds_toArray, List.set_cons_zero, List.set_cons_succ])
  refine wpAnyH_take (i := 18) (oi := { dst := some 88, op := Go.Op.pick (Go.Operand.tmp 78) (Go.Operand.const (Go.Value.bool true)) (Go.Operand.tmp 87), type := 4, pos := "more.go:23", after := #[{ on := 8, ground := Go.Ground.data }, { on := 17, ground := Go.Ground.data }], guard := none }) (v := ?vzb10) rfl (by kernel_rfl) (by kernel_rfl) (by kernel_rfl) (fun _ _ _ h => h) (Or.inl ⟨by rfl, ?yzb10⟩) (by assumption) ?rzb10
  case yzb10 => (intro w hSw; (try dsimp only at hSw); go_simp; (try with_reducible rfl))
  (try simp only [Act.put, List.setIfInBounds_toArray, List.set_cons_zero, List.set_cons_succ])
  refine wpAnyH_take (i := 19) (oi := { dst := some 89, op := Go.Op.move (Go.Operand.tmp 88), type := 4, pos := "more.go:23", after := #[{ on := 18, ground := Go.Ground.data }, { on := 8, ground := Go.Ground.chain }], guard := none }) (v := ?vzb11) rfl (by kernel_rfl) (by kernel_rfl) (by kernel_rfl) (fun _ _ _ h => h) (Or.inl ⟨by rfl, ?yzb11⟩) (by assumption) ?rzb11
  case yzb11 => (intro w hSw; (try dsimp only at hSw); go_simp; (try with_reducible rfl))
  (try simp only [Act.put, List.setIfInBounds_toArray, List.set_cons_zero, List.set_cons_succ])
  refine wpAnyH_take (i := 20) (oi := { dst := some 90, op := Go.Op.move (Go.Operand.tmp 0), type := 22, pos := "more.go:23", after := #[{ on := 19, ground := Go.Ground.guard }], guard := some (19, true) }) (v := ?vzb12) rfl (by kernel_rfl) (by kernel_rfl) (by kernel_rfl) (fun _ _ _ h => h) (Or.inl ⟨by rfl, ?yzb12⟩) (by assumption) ?rzb12
  case yzb12 => (intro w hSw; (try dsimp only at hSw); go_simp; (try with_reducible rfl))
  (try simp only [Act.put, List.setIfInBounds_toArray, List.set_cons_zero, List.set_cons_succ])
  refine wpAnyH_take (i := 21) (oi := { dst := some 91, op := Go.Op.move (Go.Operand.tmp 11), type := 23, pos := "more.go:23", after := #[{ on := 19, ground := Go.Ground.guard }], guard := some (19, true) }) (v := ?vzb13) rfl (by kernel_rfl) (by kernel_rfl) (by kernel_rfl) (fun _ _ _ h => h) (Or.inl ⟨by rfl, ?yzb13⟩) (by assumption) ?rzb13
  case yzb13 => (intro w hSw; (try dsimp only at hSw); go_simp; (try with_reducible rfl))
  (try simp only [Act.put, List.setIfInBounds_toArray, List.set_cons_zero, List.set_cons_succ])
  refine wpAnyH_take (i := 23) (oi := { dst := some 93, op := Go.Op.move (Go.Operand.tmp 0), type := 22, pos := "more.go:23", after := #[{ on := 19, ground := Go.Ground.guard }], guard := some (19, true) }) (v := ?vzb14) rfl (by kernel_rfl) (by kernel_rfl) (by kernel_rfl) (fun _ _ _ h => h) (Or.inl ⟨by rfl, ?yzb14⟩) (by assumption) ?rzb14
  case yzb14 => (intro w hSw; (try dsimp only at hSw); go_simp; (try with_reducible rfl))
  (try simp only [Act.put, List.setIfInBounds_toArray, List.set_cons_zero, List.set_cons_succ])
  refine wpAnyH_take (i := 24) (oi := { dst := some 94, op := Go.Op.move (Go.Operand.tmp 1), type := 23, pos := "more.go:23", after := #[{ on := 19, ground := Go.Ground.guard }], guard := some (19, true) }) (v := ?vzb15) rfl (by kernel_rfl) (by kernel_rfl) (by kernel_rfl) (fun _ _ _ h => h) (Or.inl ⟨by rfl, ?yzb15⟩) (by assumption) ?rzb15
  case yzb15 => (intro w hSw; (try dsimp only at hSw); go_simp; (try with_reducible rfl))
  (try simp only [Act.put, List.setIfInBounds_toArray, List.set_cons_zero, List.set_cons_succ])
  refine wpAnyH_take (i := 26) (oi := { dst := some 96, op := Go.Op.move (Go.Operand.tmp 0), type := 22, pos := "more.go:23", after := #[{ on := 19, ground := Go.Ground.guard }], guard := some (19, true) }) (v := ?vzb16) rfl (by kernel_rfl) (by kernel_rfl) (by kernel_rfl) (fun _ _ _ h => h) (Or.inl ⟨by rfl, ?yzb16⟩) (by assumption) ?rzb16
  case yzb16 => (intro w hSw; (try dsimp only at hSw); go_simp; (try with_reducible rfl))
  (try simp only [Act.put, List.setIfInBounds_toArray, List.set_cons_zero, List.set_cons_succ])
  refine wpAnyH_take (i := 27) (oi := { dst := some 97, op := Go.Op.move (Go.Operand.tmp 2), type := 3, pos := "more.go:23", after := #[{ on := 19, ground := Go.Ground.guard }], guard := some (19, true) }) (v := ?vzb17) rfl (by kernel_rfl) (by kernel_rfl) (by kernel_rfl) (fun _ _ _ h => h) (Or.inl ⟨by rfl, ?yzb17⟩) (by assumption) ?rzb17
  case yzb17 => (intro w hSw; (try dsimp only at hSw); go_simp; (try with_reducible rfl))
  (try simp only [Act.put, List.setIfInBounds_toArray, List.set_cons_zero, List.set_cons_succ])
  refine wpAnyH_take (i := 28) (oi := { dst := some 98, op := Go.Op.indexAddr 22 (Go.Operand.tmp 96) (Go.Operand.tmp 97), type := 0, pos := "more.go:23", after := #[{ on := 26, ground := Go.Ground.data }, { on := 27, ground := Go.Ground.data }, { on := 19, ground := Go.Ground.guard }], guard := some (19, true) }) (v := ?vzb18) rfl (by kernel_rfl) (by kernel_rfl) (by kernel_rfl) (fun _ _ _ h => h) (Or.inl ⟨by rfl, ?yzb18⟩) (by assumption) ?rzb18
  case yzb18 => (intro w hSw; (try dsimp only at hSw); go_simp; (try with_reducible rfl))
  (try simp only [Act.put, List.setIfInBounds_toArray, List.set_cons_zero, List.set_cons_succ])
  refine wpAnyH_take (i := 29) (oi := { dst := some 99, op := Go.Op.fieldAddr 37 (Go.Operand.tmp 98) 0, type := 0, pos := "more.go:23", after := #[{ on := 28, ground := Go.Ground.data }, { on := 19, ground := Go.Ground.guard }], guard := some (19, true) }) (v := ?vzb19) rfl (by kernel_rfl) (by kernel_rfl) (by kernel_rfl) (fun _ _ _ h => h) (Or.inl ⟨by rfl, ?yzb19⟩) (by assumption) ?rzb19
  case yzb19 => (intro w hSw; (try dsimp only at hSw); go_simp; (try with_reducible rfl))
  (try simp only [Act.put, List.setIfInBounds_toArray, List.set_cons_zero, List.set_cons_succ])
  refine wpAnyH_take (i := 30) (oi := { dst := some 100, op := Go.Op.load 3 (Go.Operand.tmp 99), type := 3, pos := "more.go:23", after := #[{ on := 29, ground := Go.Ground.data }, { on := 19, ground := Go.Ground.guard }], guard := some (19, true) }) (v := ?vzb20) rfl (by kernel_rfl) (by kernel_rfl) (by kernel_rfl) (fun _ _ _ h => h) (Or.inl ⟨by rfl, ?yzb20⟩) (by assumption) ?rzb20
  case yzb20 => (intro w hSw; (try dsimp only at hSw); go_simp; (try with_reducible rfl))
  (try simp only [Act.put, List.setIfInBounds_toArray, List.set_cons_zero, List.set_cons_succ])
  refine wpAnyH_take (i := 32) (oi := { dst := some 102, op := Go.Op.move (Go.Operand.tmp 0), type := 22, pos := "more.go:23", after := #[{ on := 19, ground := Go.Ground.guard }], guard := some (19, true) }) (v := ?vzb21) rfl (by kernel_rfl) (by kernel_rfl) (by kernel_rfl) (fun _ _ _ h => h) (Or.inl ⟨by rfl, ?yzb21⟩) (by assumption) ?rzb21
  case yzb21 => (intro w hSw; (try dsimp only at hSw); go_simp; (try with_reducible rfl))
  (try simp only [Act.put, List.setIfInBounds_toArray, List.set_cons_zero, List.set_cons_succ])
  refine wpAnyH_take (i := 33) (oi := { dst := some 103, op := Go.Op.move (Go.Operand.tmp 2), type := 3, pos := "more.go:23", after := #[{ on := 19, ground := Go.Ground.guard }], guard := some (19, true) }) (v := ?vzb22) rfl (by kernel_rfl) (by kernel_rfl) (by kernel_rfl) (fun _ _ _ h => h) (Or.inl ⟨by rfl, ?yzb22⟩) (by assumption) ?rzb22
  case yzb22 => (intro w hSw; (try dsimp only at hSw); go_simp; (try with_reducible rfl))
  (try simp only [Act.put, List.setIfInBounds_toArray, List.set_cons_zero, List.set_cons_succ])
  refine wpAnyH_take (i := 34) (oi := { dst := some 104, op := Go.Op.indexAddr 22 (Go.Operand.tmp 102) (Go.Operand.tmp 103), type := 0, pos := "more.go:23", after := #[{ on := 32, ground := Go.Ground.data }, { on := 33, ground := Go.Ground.data }, { on := 19, ground := Go.Ground.guard }], guard := some (19, true) }) (v := ?vzb23) rfl (by kernel_rfl) (by kernel_rfl) (by kernel_rfl) (fun _ _ _ h => h) (Or.inl ⟨by rfl, ?yzb23⟩) (by assumption) ?rzb23
  case yzb23 => (intro w hSw; (try dsimp only at hSw); go_simp; (try with_reducible rfl))
  (try simp only [Act.put, List.setIfInBounds_toArray, List.set_cons_zero, List.set_cons_succ])
  refine wpAnyH_take (i := 35) (oi := { dst := some 105, op := Go.Op.fieldAddr 37 (Go.Operand.tmp 104) 1, type := 0, pos := "more.go:23", after := #[{ on := 34, ground := Go.Ground.data }, { on := 19, ground := Go.Ground.guard }], guard := some (19, true) }) (v := ?vzb24) rfl (by kernel_rfl) (by kernel_rfl) (by kernel_rfl) (fun _ _ _ h => h) (Or.inl ⟨by rfl, ?yzb24⟩) (by assumption) ?rzb24
  case yzb24 => (intro w hSw; (try dsimp only at hSw); go_simp; (try with_reducible rfl))
  (try simp only [Act.put, List.setIfInBounds_toArray, List.set_cons_zero, List.set_cons_succ])
  refine wpAnyH_take (i := 36) (oi := { dst := some 106, op := Go.Op.load 35 (Go.Operand.tmp 105), type := 35, pos := "more.go:23", after := #[{ on := 35, ground := Go.Ground.data }, { on := 19, ground := Go.Ground.guard }], guard := some (19, true) }) (v := ?vzb25) rfl (by kernel_rfl) (by kernel_rfl) (by kernel_rfl) (fun _ _ _ h => h) (Or.inl ⟨by rfl, ?yzb25⟩) (by assumption) ?rzb25
  case yzb25 => (intro w hSw; (try dsimp only at hSw); go_simp; (try with_reducible rfl))
  (try simp only [Act.put, List.setIfInBounds_toArray, List.set_cons_zero, List.set_cons_succ])
  refine wpAnyH_take (i := 37) (oi := { dst := some 107, op := Go.Op.call { callee := Go.Callee.builtin Go.Builtin.len, args := #[Go.Operand.tmp 106], argTypes := #[35] }, type := 3, pos := "more.go:23", after := #[{ on := 36, ground := Go.Ground.data }, { on := 19, ground := Go.Ground.guard }], guard := some (19, true) }) (v := ?vzb26) rfl (by kernel_rfl) (by kernel_rfl) (by kernel_rfl) (fun _ _ _ h => h) (Or.inl ⟨by rfl, ?yzb26⟩) (by assumption) ?rzb26
  case yzb26 => (intro w hSw; (try dsimp only at hSw); go_simp; (try with_reducible rfl))
  (try simp only [Act.put, List.setIfInBounds_toArray, List.set_cons_zero, List.set_cons_succ])
  refine wpAnyH_ready (rs := [22]) (by kernel_rfl) (by simp) ?_
  refine (AllReadyH.cons (o := { dst := some 92, op := Go.Op.call { callee := Go.Callee.value (Go.Operand.func 19), args := #[Go.Operand.tmp 90, Go.Operand.tmp 91], argTypes := #[22, 23] }, type := 3, pos := "more.go:23", after := #[{ on := 20, ground := Go.Ground.data }, { on := 21, ground := Go.Ground.data }, { on := 19, ground := Go.Ground.chain }, { on := 19, ground := Go.Ground.guard }], guard := some (19, true) }) rfl (fun K hK => ?_) AllReadyH.nil)
  go_simp
  refine (kleft (HT.out.later ZC.out) (HX.out.later ZC.out) SM.out HLT.out HM.out (by omega) G3.out).mono ?_
  rintro e wz ⟨rfl, zb⟩
  go_wp2_with fail
  replace ZC := Lib.hid (keep_call (w2 := w4) zb ZC.out)
  clear zb
  refine hK.out _ _ (HK.out _ ZC.out) (fun hHeld2 => ?_)
  clear hK K hHeld
  have hHeld := hHeld2
  clear hHeld2
  (try simp only [Act.put, List.setIfInBounds_toArray, List.set_cons_zero, List.set_cons_succ])
  refine wpAnyH_ready (rs := [25]) (by kernel_rfl) (by simp) ?_
  refine (AllReadyH.cons (o := { dst := some 95, op := Go.Op.call { callee := Go.Callee.value (Go.Operand.func 19), args := #[Go.Operand.tmp 93, Go.Operand.tmp 94], argTypes := #[22, 23] }, type := 3, pos := "more.go:23", after := #[{ on := 23, ground := Go.Ground.data }, { on := 24, ground := Go.Ground.data }, { on := 22, ground := Go.Ground.chain }, { on := 19, ground := Go.Ground.guard }], guard := some (19, true) }) rfl (fun K hK => ?_) AllReadyH.nil)
  go_simp
  refine (kleft (HT.out.later ZC.out) (HS.out.later ZC.out) SM.out HLT.out HNS.out (by omega) HQ0.out).mono ?_
  rintro e wz ⟨rfl, zb⟩
  go_wp2_with fail
  replace ZC := Lib.hid (keep_call (w2 := w4) zb ZC.out)
  clear zb
  refine hK.out _ _ (HK.out _ ZC.out) (fun hHeld2 => ?_)
  clear hK K hHeld
  have hHeld := hHeld2
  clear hHeld2
  (try simp only [Act.put, List.setIfInBounds_toArray, List.set_cons_zero, List.set_cons_succ])
  refine wpAnyH_take (i := 31) (oi := { dst := some 101, op := Go.Op.binOp Go.BinOp.add 3 (Go.Operand.tmp 95) (Go.Operand.tmp 100) 3, type := 3, pos := "more.go:23", after := #[{ on := 25, ground := Go.Ground.data }, { on := 30, ground := Go.Ground.data }, { on := 19, ground := Go.Ground.guard }], guard := some (19, true) }) (v := ?vzb27) rfl (by kernel_rfl) (by kernel_rfl) (by kernel_rfl) (fun _ _ _ h => h) (Or.inl ⟨by rfl, ?yzb27⟩) (by assumption) ?rzb27
  case yzb27 => (intro w hSw; (try dsimp only at hSw); go_simp; (try with_reducible rfl))
  (try simp only [Act.put, List.setIfInBounds_toArray, List.set_cons_zero, List.set_cons_succ])
  refine wpAnyH_take (i := 38) (oi := { dst := some 108, op := Go.Op.binOp Go.BinOp.add 3 (Go.Operand.tmp 101) (Go.Operand.tmp 107) 3, type := 3, pos := "more.go:23", after := #[{ on := 31, ground := Go.Ground.data }, { on := 37, ground := Go.Ground.data }, { on := 19, ground := Go.Ground.guard }], guard := some (19, true) }) (v := ?vzb28) rfl (by kernel_rfl) (by kernel_rfl) (by kernel_rfl) (fun _ _ _ h => h) (Or.inl ⟨by rfl, ?yzb28⟩) (by assumption) ?rzb28
  case yzb28 => (intro w hSw; (try dsimp only at hSw); go_simp; (try with_reducible rfl))
  (try simp only [Act.put, List.setIfInBounds_toArray, List.set_cons_zero, List.set_cons_succ])
  refine wpAnyH_take (i := 39) (oi := { dst := some 109, op := Go.Op.binOp Go.BinOp.add 3 (Go.Operand.tmp 108) (Go.Operand.const (Go.Value.int Go.IntKind.i64 1)) 3, type := 3, pos := "more.go:23", after := #[{ on := 38, ground := Go.Ground.data }, { on := 19, ground := Go.Ground.guard }], guard := some (19, true) }) (v := ?vzb29) rfl (by kernel_rfl) (by kernel_rfl) (by kernel_rfl) (fun _ _ _ h => h) (Or.inl ⟨by rfl, ?yzb29⟩) (by assumption) ?rzb29
  case yzb29 => (intro w hSw; (try dsimp only at hSw); go_simp; (try with_reducible rfl))
  (try simp only [Act.put, List.setIfInBounds_toArray, List.set_cons_zero, List.set_cons_succ])
  refine wpAnyH_take (i := 40) (oi := { dst := some 110, op := Go.Op.binOp Go.BinOp.eql 3 (Go.Operand.tmp 92) (Go.Operand.tmp 109) 3, type := 4, pos := "more.go:23", after := #[{ on := 22, ground := Go.Ground.data }, { on := 39, ground := Go.Ground.data }, { on := 19, ground := Go.Ground.guard }], guard := some (19, true) }) (v := ?vzb30) rfl (by kernel_rfl) (by kernel_rfl) (by kernel_rfl) (fun _ _ _ h => h) (Or.inl ⟨by rfl, ?yzb30⟩) (by assumption) ?rzb30
  case yzb30 => (intro w hSw; (try dsimp only at hSw); go_simp; (try with_reducible rfl))
  (try simp only [Act.put, List.setIfInBounds_toArray, List.set_cons_zero, List.set_cons_succ])
  refine wpAnyH_take (i := 41) (oi := { dst := some 111, op := Go.Op.pick (Go.Operand.tmp 89) (Go.Operand.tmp 110) (Go.Operand.const (Go.Value.bool false)), type := 4, pos := "more.go:23", after := #[{ on := 19, ground := Go.Ground.data }, { on := 40, ground := Go.Ground.data }], guard := none }) (v := ?vzb31) rfl (by kernel_rfl) (by kernel_rfl) (by kernel_rfl) (fun _ _ _ h => h) (Or.inl ⟨by rfl, ?yzb31⟩) (by assumption) ?rzb31
  case yzb31 => (intro w hSw; (try dsimp only at hSw); go_simp; (try with_reducible rfl))
  (try simp only [Act.put, List.setIfInBounds_toArray, List.set_cons_zero, List.set_cons_succ])
  refine wpAnyH_take (i := 42) (oi := { dst := some 8, op := Go.Op.assign (Go.Operand.tmp 111), type := 4, pos := "more.go:23", after := #[{ on := 41, ground := Go.Ground.data }, { on := 25, ground := Go.Ground.chain }, { on := 0, ground := Go.Ground.phase }, { on := 1, ground := Go.Ground.phase }, { on := 2, ground := Go.Ground.phase }, { on := 3, ground := Go.Ground.phase }, { on := 4, ground := Go.Ground.phase }, { on := 5, ground := Go.Ground.phase }, { on := 6, ground := Go.Ground.phase }, { on := 7, ground := Go.Ground.phase }, { on := 8, ground := Go.Ground.phase }, { on := 9, ground := Go.Ground.phase }, { on := 10, ground := Go.Ground.phase }, { on := 11, ground := Go.Ground.phase }, { on := 12, ground := Go.Ground.phase }, { on := 13, ground := Go.Ground.phase }, { on := 14, ground := Go.Ground.phase }, { on := 15, ground := Go.Ground.phase }, { on := 16, ground := Go.Ground.phase }, { on := 17, ground := Go.Ground.phase }, { on := 18, ground := Go.Ground.phase }, { on := 19, ground := Go.Ground.phase }, { on := 20, ground := Go.Ground.phase }, { on := 21, ground := Go.Ground.phase }, { on := 22, ground := Go.Ground.phase }, { on := 23, ground := Go.Ground.phase }, { on := 24, ground := Go.Ground.phase }, { on := 25, ground := Go.Ground.phase }, { on := 26, ground := Go.Ground.phase }, { on := 27, ground := Go.Ground.phase }, { on := 28, ground := Go.Ground.phase }, { on := 29, ground := Go.Ground.phase }, { on := 30, ground := Go.Ground.phase }, { on := 31, ground := Go.Ground.phase }, { on := 32, ground := Go.Ground.phase }, { on := 33, ground := Go.Ground.phase }, { on := 34, ground := Go.Ground.phase }, { on := 35, ground := Go.Ground.phase }, { on := 36, ground := Go.Ground.phase }, { on := 37, ground := Go.Ground.phase }, { on := 38, ground := Go.Ground.phase }, { on := 39, ground := Go.Ground.phase }, { on := 40, ground := Go.Ground.phase }, { on := 41, ground := Go.Ground.phase }], guard := none }) (v := ?vzb32) rfl (by kernel_rfl) (by kernel_rfl) (by kernel_rfl) (fun _ _ _ h => h) (Or.inl ⟨by rfl, ?yzb32⟩) (by assumption) ?rzb32
  case yzb32 => (intro w hSw; (try dsimp only at hSw); go_simp; (try with_reducible rfl))
  (try simp only [Act.put, List.setIfInBounds_toArray, List.set_cons_zero, List.set_cons_succ])
  refine wpAnyH_done (by kernel_rfl) ?_ _
  go_wp2
  go_ret
  exact ⟨by simp [HWR.out], Z.out.trans (ZC.out.mono Z.out.size)⟩
set_option maxRecDepth 100000 in
set_option maxHeartbeats 4000000 in
theorem start_in (A S : Option Addr) (c lt cS nS : Nat) (T : List Tsk) (lS : List Itm) (k : Int) (i : Int) (w : World) (hT : Tk w.heap.size w A T) (htl : T.length ≤ maxLen) (hkl : ∀ x ∈ T, x.2.length ≤ maxLen) (hlt : T.length = lt) (hS : Ir w.heap.size w S lS) (hnS : lS.length = nS) (hmS : nS ≤ maxLen) (hcS : nS ≤ cS) (hdS : cS ≤ maxLen) (heS : S = none → cS = 0) (hfew : few T = true) (hlS : nS ≤ 40) (hmay : mayS T lS = true) (hk0 : 0 ≤ k) (hk : k < (lt : Int)) (hi : i < (nS : Int)) (hi0 : 0 ≤ i) : Tells 6 #[.slice A lt c, .slice S nS cS, .int .i64 k, .int .i64 i] w (.bool true) := by
  have SM := Lib.hid (few_sm hfew)
  have hlS1 : ¬ 40 < nS := by omega
  obtain ⟨u, rfl⟩ := Int.eq_ofNat_of_zero_le hk0
  obtain ⟨j, rfl⟩ := Int.eq_ofNat_of_zero_le hi0
  have hu : u < T.length := by omega
  obtain ⟨g1, g2, g3⟩ := start_S hmay hk0 (by rw [hlt]; exact hk)
  rw [wkA_at hu, kdA_at hu] at g3
  obtain ⟨q, hq0⟩ : ∃ q, leftS T lS = q := ⟨_, rfl⟩
  have hb := leftS_le (few_sm hfew) hmay
  have hw := wk_at (may_parts (mayS_all hmay).1).2.1 hu
  have hkl2 := (few_sm hfew).at hu
  have hq1 : 0 ≤ q := by rw [← hq0]; unfold leftS; rw [if_pos hmay]; have := leftN_ge (mayS_all hmay).2; omega
  rw [hq0] at hb g3
  rw [hnS] at hb
  have hm : (lS ++ [((u : Int), (0 : Int), (0 : Int))]).length = nS + 1 := by simp [hnS]
  have hlast : (lS ++ [((u : Int), (0 : Int), (0 : Int))])[nS]? = some ((u : Int), 0, 0) := by rw [List.getElem?_append_right (by omega), show nS - lS.length = 0 by omega]; rfl
  have hp := ie_yes (x := ((u : Int), (0 : Int), (0 : Int))) (y := ((u : Int), (0 : Int), (0 : Int))) rfl
  simp only at hp
  have hj : j < lS.length := by omega
  have hjx : (lS ++ [((u : Int), (0 : Int), (0 : Int))])[j]? = some lS[j] := by rw [List.getElem?_append_left hj]; exact List.getElem?_eq_getElem hj
  have hjs := List.getElem?_eq_getElem hj
  obtain ⟨⟨y1, y2, y3⟩, hy⟩ : ∃ y, lS[j] = y := ⟨_, rfl⟩
  rw [hy] at hjx hjs
  have hp2 := ie_yes (x := (y1, y2, y3)) (y := (y1, y2, y3)) rfl
  simp only at hp2
  have HJX := Lib.hid hjx
  have HJS := Lib.hid hjs
  clear hjx hjs hy
  have G1 := Lib.hid g1
  have G2 := Lib.hid g2
  have G3 := Lib.hid g3
  have HQ0 := Lib.hid hq0
  have HM := Lib.hid hm
  have HLA := Lib.hid hlast
  have HU := Lib.hid hu
  clear g1 g2 g3 hq0 hm hlast
  have HT := Lib.hid hT
  have HLT := Lib.hid hlt
  have HKL := Lib.hid hkl
  have Z := Lib.hid (Below.refl w.heap.size w)
  have HS := Lib.hid hS
  have HNS := Lib.hid hnS
  have HES := Lib.hid heS
  unfold maxLen at hmS hdS
  clear hT hlt hkl hS hnS heS
  go_enter Try.func6, Try.ntmps6
  go_wp2_with fail
  refine (awake_any w).mono ?_
  rintro _ w1 ⟨rfl, zz⟩
  replace HT := Lib.hid (HT.out.later zz)
  replace HS := Lib.hid (HS.out.later zz)
  replace Z := Lib.hid (Z.out.trans (zz.mono Z.out.size))
  clear zz
  go_wp2_with fail
  refine (kfew w1 HT.out htl HKL.out HLT.out hfew).mono ?_
  rintro _ w2 ⟨rfl, ew⟩
  subst ew
  go_wp2_with fail
  refine (kmay HT.out HS.out SM.out HLT.out HNS.out (by omega) hmay).mono ?_
  rintro _ w2 ⟨rfl, zz⟩
  replace HT := Lib.hid (HT.out.later zz)
  replace HS := Lib.hid (HS.out.later zz)
  replace Z := Lib.hid (Z.out.trans (zz.mono Z.out.size))
  clear zz
  go_wp2_with fail
  refine (kstart HT.out HS.out SM.out HLT.out HNS.out (by omega) G1.out HM.out).mono ?_
  rintro _ w3 ⟨X, cX, rfl, hX, _, _, zz⟩
  replace HT := Lib.hid (HT.out.later zz)
  replace HS := Lib.hid (HS.out.later zz)
  have HX := Lib.hid hX
  replace Z := Lib.hid (Z.out.trans (zz.mono Z.out.size))
  clear zz hX
  obtain ⟨bX, oX, rfl, hbX, fX⟩ := HX.out (by rw [HM.out]; omega)
  have FX := Lib.hid fX
  clear fX
  go_wp2_with fail
  refine (kmay HT.out HX.out SM.out HLT.out HM.out (by omega) G2.out).mono ?_
  rintro _ w4 ⟨rfl, zz⟩
  replace HT := Lib.hid (HT.out.later zz)
  replace HS := Lib.hid (HS.out.later zz)
  replace HX := Lib.hid (HX.out.later zz)
  replace Z := Lib.hid (Z.out.trans (zz.mono Z.out.size))
  clear zz
  obtain ⟨bX2, oX2, eX, hbX2, fX⟩ := HX.out (by rw [HM.out]; omega)
  cases eX
  obtain ⟨x0, x1, x2⟩ := fX nS _ HLA.out
  simp only at x0 x1 x2
  go_upto_region 10 with fail
  obtain ⟨bT, oT, KT, cT, rfl, hbT, t0, t1, _⟩ := HT.out.at HU.out
  generalize T[u].1 = W at *
  generalize T[u].2.length = L at *
  obtain ⟨bS, oS, rfl, hbS, fS⟩ := HS.out (by rw [HNS.out]; omega)
  obtain ⟨s0, s1, s2⟩ := fS j _ HJS.out
  obtain ⟨v0, v1, v2⟩ := fX j _ HJX.out
  simp only at s0 s1 s2 v0 v1 v2
  clear fX fS
  have HWR := Lib.hid (show IntKind.i64.wrap (IntKind.i64.wrap (IntKind.i64.wrap (q + W) + L) + 1) = q + W + L + 1 by simp only [IntKind.wrap_i64]; omega)
  have d0 : decide ((j : Int) < 0) = false := decide_eq_false (by omega)
  have d1 : decide ((nS : Int) ≤ (j : Int)) = false := decide_eq_false (by omega)
  have d2 : decide (nS ≤ j) = false := decide_eq_false (by omega)
  have dj : (j : Int) < (nS : Int) + 1 := by omega
  have HK := Lib.hid (show ∀ x', Below w4.heap.size w4 x' → (fun w' => w'.cell? ⟨bT, oT + u * 2, none⟩ = some (.int .i64 W) ∧ w'.cell? ⟨bT, oT + u * 2 + 1, none⟩ = some (.slice KT L cT) ∧ w'.cell? ⟨bS, oS + j * 3, none⟩ = some (.int .i64 y1) ∧ w'.cell? ⟨bS, oS + j * 3 + 1, none⟩ = some (.int .i64 y2) ∧ w'.cell? ⟨bS, oS + j * 3 + 2, none⟩ = some (.int .i64 y3) ∧ w'.cell? ⟨bX, oX + j * 3, none⟩ = some (.int .i64 y1) ∧ w'.cell? ⟨bX, oX + j * 3 + 1, none⟩ = some (.int .i64 y2) ∧ w'.cell? ⟨bX, oX + j * 3 + 2, none⟩ = some (.int .i64 y3) ∧ Below w4.heap.size w4 w') x' from fun x' hx => by
    exact ⟨(hx.cell (p := ⟨bT, oT + u * 2, none⟩) hbT).trans t0, (hx.cell (p := ⟨bT, oT + u * 2 + 1, none⟩) hbT).trans t1, (hx.cell (p := ⟨bS, oS + j * 3, none⟩) hbS).trans s0, (hx.cell (p := ⟨bS, oS + j * 3 + 1, none⟩) hbS).trans s1, (hx.cell (p := ⟨bS, oS + j * 3 + 2, none⟩) hbS).trans s2, (hx.cell (p := ⟨bX, oX + j * 3, none⟩) hbX2).trans v0, (hx.cell (p := ⟨bX, oX + j * 3 + 1, none⟩) hbX2).trans v1, (hx.cell (p := ⟨bX, oX + j * 3 + 2, none⟩) hbX2).trans v2, hx⟩)
  have hHeld0 := HK.out _ (Below.refl _ _)
  have ZC := Lib.hid (Below.refl w4.heap.size w4).drew
  refine wp_region_held_drew (S := fun w' => w'.cell? ⟨bT, oT + u * 2, none⟩ = some (.int .i64 W) ∧ w'.cell? ⟨bT, oT + u * 2 + 1, none⟩ = some (.slice KT L cT) ∧ w'.cell? ⟨bS, oS + j * 3, none⟩ = some (.int .i64 y1) ∧ w'.cell? ⟨bS, oS + j * 3 + 1, none⟩ = some (.int .i64 y2) ∧ w'.cell? ⟨bS, oS + j * 3 + 2, none⟩ = some (.int .i64 y3) ∧ w'.cell? ⟨bX, oX + j * 3, none⟩ = some (.int .i64 y1) ∧ w'.cell? ⟨bX, oX + j * 3 + 1, none⟩ = some (.int .i64 y2) ∧ w'.cell? ⟨bX, oX + j * 3 + 2, none⟩ = some (.int .i64 y3) ∧ Below w4.heap.size w4 w') (by kernel_rfl) (hd_drew HK.out (fun _ h => h.2.2.2.2.2.2.2.2) hHeld0) (fun hHeld => ?_)
  refine wpAnyH_take (i := 0) (oi := { dst := some 70, op := Go.Op.move (Go.Operand.tmp 3), type := 3, pos := "more.go:23", after := #[], guard := none }) (v := ?vzc1) rfl (by kernel_rfl) (by kernel_rfl) (by kernel_rfl) (fun _ _ _ h => h) (Or.inl ⟨by rfl, ?yzc1⟩) (by assumption) ?rzc1
  case yzc1 => (intro w hSw; (try dsimp only at hSw); go_simp; (try with_reducible rfl))
  (try simp only [Act.put, List.setIfInBounds_toArray, List.set_cons_zero, List.set_cons_succ])
  refine wpAnyH_take (i := 1) (oi := { dst := some 71, op := Go.Op.binOp Go.BinOp.lss 3 (Go.Operand.tmp 70) (Go.Operand.const (Go.Value.int Go.IntKind.i64 0)) 3, type := 4, pos := "more.go:23", after := #[{ on := 0, ground := Go.Ground.data }], guard := none }) (v := ?vzc2) rfl (by kernel_rfl) (by kernel_rfl) (by kernel_rfl) (fun _ _ _ h => h) (Or.inl ⟨by rfl, ?yzc2⟩) (by assumption) ?rzc2
  case yzc2 => (intro w hSw; (try dsimp only at hSw); go_simp; (try with_reducible rfl))
  (try simp only [Act.put, List.setIfInBounds_toArray, List.set_cons_zero, List.set_cons_succ])
  refine wpAnyH_take (i := 2) (oi := { dst := some 72, op := Go.Op.move (Go.Operand.tmp 71), type := 4, pos := "more.go:23", after := #[{ on := 1, ground := Go.Ground.data }], guard := none }) (v := ?vzc3) rfl (by kernel_rfl) (by kernel_rfl) (by kernel_rfl) (fun _ _ _ h => h) (Or.inl ⟨by rfl, ?yzc3⟩) (by assumption) ?rzc3
  case yzc3 => (intro w hSw; (try dsimp only at hSw); go_simp; (try with_reducible rfl))
  (try simp only [Act.put, List.setIfInBounds_toArray, List.set_cons_zero, List.set_cons_succ])
  refine wpAnyH_take (i := 3) (oi := { dst := some 73, op := Go.Op.move (Go.Operand.tmp 3), type := 3, pos := "more.go:23", after := #[{ on := 2, ground := Go.Ground.guard }], guard := some (2, false) }) (v := ?vzc4) rfl (by kernel_rfl) (by kernel_rfl) (by kernel_rfl) (fun _ _ _ h => h) (Or.inl ⟨by rfl, ?yzc4⟩) (by assumption) ?rzc4
  case yzc4 => (intro w hSw; (try dsimp only at hSw); go_simp; (try with_reducible rfl))
  (try simp only [Act.put, List.setIfInBounds_toArray, List.set_cons_zero, List.set_cons_succ])
  refine wpAnyH_take (i := 4) (oi := { dst := some 74, op := Go.Op.move (Go.Operand.tmp 1), type := 23, pos := "more.go:23", after := #[{ on := 2, ground := Go.Ground.guard }], guard := some (2, false) }) (v := ?vzc5) rfl (by kernel_rfl) (by kernel_rfl) (by kernel_rfl) (fun _ _ _ h => h) (Or.inl ⟨by rfl, ?yzc5⟩) (by assumption) ?rzc5
  case yzc5 => (intro w hSw; (try dsimp only at hSw); go_simp; (try with_reducible rfl))
  (try simp only [Act.put, List.setIfInBounds_toArray, List.set_cons_zero, List.set_cons_succ])
  refine wpAnyH_take (i := 5) (oi := { dst := some 75, op := Go.Op.call { callee := Go.Callee.builtin Go.Builtin.len, args := #[Go.Operand.tmp 74], argTypes := #[23] }, type := 3, pos := "more.go:23", after := #[{ on := 4, ground := Go.Ground.data }, { on := 2, ground := Go.Ground.guard }], guard := some (2, false) }) (v := ?vzc6) rfl (by kernel_rfl) (by kernel_rfl) (by kernel_rfl) (fun _ _ _ h => h) (Or.inl ⟨by rfl, ?yzc6⟩) (by assumption) ?rzc6
  case yzc6 => (intro w hSw; (try dsimp only at hSw); go_simp; (try with_reducible rfl))
  (try simp only [Act.put, List.setIfInBounds_toArray, List.set_cons_zero, List.set_cons_succ])
  refine wpAnyH_take (i := 6) (oi := { dst := some 76, op := Go.Op.binOp Go.BinOp.geq 3 (Go.Operand.tmp 73) (Go.Operand.tmp 75) 3, type := 4, pos := "more.go:23", after := #[{ on := 3, ground := Go.Ground.data }, { on := 5, ground := Go.Ground.data }, { on := 2, ground := Go.Ground.guard }], guard := some (2, false) }) (v := ?vzc7) rfl (by kernel_rfl) (by kernel_rfl) (by kernel_rfl) (fun _ _ _ h => h) (Or.inl ⟨by rfl, ?yzc7⟩) (by assumption) ?rzc7
  case yzc7 => (intro w hSw; (try dsimp only at hSw); go_simp; (try with_reducible rfl))
  (try simp only [Act.put, List.setIfInBounds_toArray, List.set_cons_zero, List.set_cons_succ])
  refine wpAnyH_take (i := 7) (oi := { dst := some 77, op := Go.Op.pick (Go.Operand.tmp 72) (Go.Operand.const (Go.Value.bool true)) (Go.Operand.tmp 76), type := 4, pos := "more.go:23", after := #[{ on := 2, ground := Go.Ground.data }, { on := 6, ground := Go.Ground.data }], guard := none }) (v := ?vzc8) rfl (by kernel_rfl) (by kernel_rfl) (by kernel_rfl) (fun _ _ _ h => h) (Or.inl ⟨by rfl, ?yzc8⟩) (by assumption) ?rzc8
  case yzc8 => (intro w hSw; (try dsimp only at hSw); go_simp; (try with_reducible rfl))
  (try simp only [Act.put, List.setIfInBounds_toArray, List.set_cons_zero, List.set_cons_succ])
  refine wpAnyH_take (i := 8) (oi := { dst := some 78, op := Go.Op.move (Go.Operand.tmp 77), type := 4, pos := "more.go:23", after := #[{ on := 7, ground := Go.Ground.data }, { on := 2, ground := Go.Ground.chain }], guard := none }) (v := ?vzc9) rfl (by kernel_rfl) (by kernel_rfl) (by kernel_rfl) (fun _ _ _ h => h) (Or.inl ⟨by rfl, ?yzc9⟩) (by assumption) ?rzc9
  case yzc9 => (intro w hSw; (try dsimp only at hSw); go_simp; (try with_reducible rfl))
  (try simp only [Act.put, List.setIfInBounds_toArray, List.set_cons_zero, List.set_cons_succ])
  refine wpAnyH_take (i := 9) (oi := { dst := some 79, op := Go.Op.move (Go.Operand.tmp 11), type := 23, pos := "more.go:23", after := #[{ on := 8, ground := Go.Ground.guard }], guard := some (8, false) }) (v := ?vzc10) rfl (by kernel_rfl) (by kernel_rfl) (by kernel_rfl) (fun _ _ _ h => h) (Or.inl ⟨by rfl, ?yzc10⟩) (by assumption) ?rzc10
  case yzc10 => (intro w hSw; (try dsimp only at hSw); go_simp; (try with_reducible rfl))
  (try simp only [Act.put, List.setIfInBounds_toArray, List.set_cons_zero, List.set_cons_succ])
  refine wpAnyH_take (i := 10) (oi := { dst := some 80, op := Go.Op.move (Go.Operand.tmp 3), type := 3, pos := "more.go:23", after := #[{ on := 8, ground := Go.Ground.guard }], guard := some (8, false) }) (v := ?vzc11) rfl (by kernel_rfl) (by kernel_rfl) (by kernel_rfl) (fun _ _ _ h => h) (Or.inl ⟨by rfl, ?yzc11⟩) (by assumption) ?rzc11
  case yzc11 => (intro w hSw; (try dsimp only at hSw); go_simp; (try with_reducible rfl))
  (try simp only [Act.put, List.setIfInBounds_toArray, List.set_cons_zero, List.set_cons_succ])
  refine wpAnyH_take (i := 11) (oi := { dst := some 81, op := Go.Op.indexAddr 23 (Go.Operand.tmp 79) (Go.Operand.tmp 80), type := 0, pos := "more.go:23", after := #[{ on := 9, ground := Go.Ground.data }, { on := 10, ground := Go.Ground.data }, { on := 8, ground := Go.Ground.guard }], guard := some (8, false) }) (v := ?vzc12) rfl (by kernel_rfl) (by kernel_rfl) (by kernel_rfl) (fun _ _ _ h => h) (Or.inl ⟨by rfl, ?yzc12⟩) (by assumption) ?rzc12
  case yzc12 => (intro w hSw; (try dsimp only at hSw); go_simp; (try with_reducible rfl))
  (try simp only [Act.put, List.setIfInBounds_toArray, List.set_cons_zero, List.set_cons_succ])
  refine wpAnyH_take (i := 12) (oi := { dst := some 82, op := Go.Op.load 40 (Go.Operand.tmp 81), type := 40, pos := "more.go:23", after := #[{ on := 11, ground := Go.Ground.data }, { on := 8, ground := Go.Ground.guard }], guard := some (8, false) }) (v := ?vzc13) rfl (by kernel_rfl) (by kernel_rfl) (by kernel_rfl) (fun _ _ _ h => h) (Or.inl ⟨by rfl, ?yzc13⟩) (by assumption) ?rzc13
  case yzc13 => (intro w hSw; (try dsimp only at hSw); go_simp; (try with_reducible rfl))
  (try simp only [Act.put, List.setIfInBounds_toArray, List.set_cons_zero, List.set_cons_succ])
  refine wpAnyH_take (i := 13) (oi := { dst := some 83, op := Go.Op.move (Go.Operand.tmp 1), type := 23, pos := "more.go:23", after := #[{ on := 8, ground := Go.Ground.guard }], guard := some (8, false) }) (v := ?vzc14) rfl (by kernel_rfl) (by kernel_rfl) (by kernel_rfl) (fun _ _ _ h => h) (Or.inl ⟨by rfl, ?yzc14⟩) (by assumption) ?rzc14
  case yzc14 => (intro w hSw; (try dsimp only at hSw); go_simp; (try with_reducible rfl))
  (try simp only [Act.put, List.setIfInBounds_toArray, List.set_cons_zero, List.set_cons_succ])
  refine wpAnyH_take (i := 14) (oi := { dst := some 84, op := Go.Op.move (Go.Operand.tmp 3), type := 3, pos := "more.go:23", after := #[{ on := 8, ground := Go.Ground.guard }], guard := some (8, false) }) (v := ?vzc15) rfl (by kernel_rfl) (by kernel_rfl) (by kernel_rfl) (fun _ _ _ h => h) (Or.inl ⟨by rfl, ?yzc15⟩) (by assumption) ?rzc15
  case yzc15 => (intro w hSw; (try dsimp only at hSw); go_simp; (try with_reducible rfl))
  (try simp only [Act.put, List.setIfInBounds_toArray, List.set_cons_zero, List.set_cons_succ])
  refine wpAnyH_take (i := 15) (oi := { dst := some 85, op := Go.Op.indexAddr 23 (Go.Operand.tmp 83) (Go.Operand.tmp 84), type := 0, pos := "more.go:23", after := #[{ on := 13, ground := Go.Ground.data }, { on := 14, ground := Go.Ground.data }, { on := 8, ground := Go.Ground.guard }], guard := some (8, false) }) (v := ?vzc16) rfl (by kernel_rfl) (by kernel_rfl) (by kernel_rfl) (fun _ _ _ h => h) (Or.inl ⟨by rfl, ?yzc16⟩) (by assumption) ?rzc16
  case yzc16 => (intro w hSw; (try dsimp only at hSw); go_simp; (try with_reducible rfl))
  (try simp only [Act.put, List.setIfInBounds_toArray, List.set_cons_zero, List.set_cons_succ])
  refine wpAnyH_take (i := 16) (oi := { dst := some 86, op := Go.Op.load 40 (Go.Operand.tmp 85), type := 40, pos := "more.go:23", after := #[{ on := 15, ground := Go.Ground.data }, { on := 8, ground := Go.Ground.guard }], guard := some (8, false) }) (v := ?vzc17) rfl (by kernel_rfl) (by kernel_rfl) (by kernel_rfl) (fun _ _ _ h => h) (Or.inl ⟨by rfl, ?yzc17⟩) (by assumption) ?rzc17
  case yzc17 => (intro w hSw; (try dsimp only at hSw); go_simp; (try with_reducible rfl))
  (try simp only [Act.put, List.setIfInBounds_toArray, List.set_cons_zero, List.set_cons_succ])
  refine wpAnyH_take (i := 17) (oi := { dst := some 87, op := Go.Op.binOp Go.BinOp.eql 40 (Go.Operand.tmp 82) (Go.Operand.tmp 86) 40, type := 4, pos := "more.go:23", after := #[{ on := 12, ground := Go.Ground.data }, { on := 16, ground := Go.Ground.data }, { on := 8, ground := Go.Ground.guard }], guard := some (8, false) }) (v := ?vzc18) rfl (by kernel_rfl) (by kernel_rfl) (by kernel_rfl) (fun _ _ _ h => h) (Or.inl ⟨by rfl, ?yzc18⟩) (by assumption) ?rzc18
  case yzc18 => (intro w hSw; (try dsimp only at hSw); go_simp; (try with_reducible rfl))
  (try simp only [Act.put, List.setIfInBounds_toArray, List.set_cons_zero, List.set_cons_succ])
  refine wpAnyH_take (i := 18) (oi := { dst := some 88, op := Go.Op.pick (Go.Operand.tmp 78) (Go.Operand.const (Go.Value.bool true)) (Go.Operand.tmp 87), type := 4, pos := "more.go:23", after := #[{ on := 8, ground := Go.Ground.data }, { on := 17, ground := Go.Ground.data }], guard := none }) (v := ?vzc19) rfl (by kernel_rfl) (by kernel_rfl) (by kernel_rfl) (fun _ _ _ h => h) (Or.inl ⟨by rfl, ?yzc19⟩) (by assumption) ?rzc19
  case yzc19 => (intro w hSw; (try dsimp only at hSw); go_simp; (try with_reducible rfl))
  (try simp only [Act.put, List.setIfInBounds_toArray, List.set_cons_zero, List.set_cons_succ])
  refine wpAnyH_take (i := 19) (oi := { dst := some 89, op := Go.Op.move (Go.Operand.tmp 88), type := 4, pos := "more.go:23", after := #[{ on := 18, ground := Go.Ground.data }, { on := 8, ground := Go.Ground.chain }], guard := none }) (v := ?vzc20) rfl (by kernel_rfl) (by kernel_rfl) (by kernel_rfl) (fun _ _ _ h => h) (Or.inl ⟨by rfl, ?yzc20⟩) (by assumption) ?rzc20
  case yzc20 => (intro w hSw; (try dsimp only at hSw); go_simp; (try with_reducible rfl))
  (try simp only [Act.put, List.setIfInBounds_toArray, List.set_cons_zero, List.set_cons_succ])
  refine wpAnyH_take (i := 20) (oi := { dst := some 90, op := Go.Op.move (Go.Operand.tmp 0), type := 22, pos := "more.go:23", after := #[{ on := 19, ground := Go.Ground.guard }], guard := some (19, true) }) (v := ?vzc21) rfl (by kernel_rfl) (by kernel_rfl) (by kernel_rfl) (fun _ _ _ h => h) (Or.inl ⟨by rfl, ?yzc21⟩) (by assumption) ?rzc21
  case yzc21 => (intro w hSw; (try dsimp only at hSw); go_simp; (try with_reducible rfl))
  (try simp only [Act.put, List.setIfInBounds_toArray, List.set_cons_zero, List.set_cons_succ])
  refine wpAnyH_take (i := 21) (oi := { dst := some 91, op := Go.Op.move (Go.Operand.tmp 11), type := 23, pos := "more.go:23", after := #[{ on := 19, ground := Go.Ground.guard }], guard := some (19, true) }) (v := ?vzc22) rfl (by kernel_rfl) (by kernel_rfl) (by kernel_rfl) (fun _ _ _ h => h) (Or.inl ⟨by rfl, ?yzc22⟩) (by assumption) ?rzc22
  case yzc22 => (intro w hSw; (try dsimp only at hSw); go_simp; (try with_reducible rfl))
  (try simp only [Act.put, List.setIfInBounds_toArray, List.set_cons_zero, List.set_cons_succ])
  refine wpAnyH_take (i := 23) (oi := { dst := some 93, op := Go.Op.move (Go.Operand.tmp 0), type := 22, pos := "more.go:23", after := #[{ on := 19, ground := Go.Ground.guard }], guard := some (19, true) }) (v := ?vzc23) rfl (by kernel_rfl) (by kernel_rfl) (by kernel_rfl) (fun _ _ _ h => h) (Or.inl ⟨by rfl, ?yzc23⟩) (by assumption) ?rzc23
  case yzc23 => (intro w hSw; (try dsimp only at hSw); go_simp; (try with_reducible rfl))
  (try simp only [Act.put, List.setIfInBounds_toArray, List.set_cons_zero, List.set_cons_succ])
  refine wpAnyH_take (i := 24) (oi := { dst := some 94, op := Go.Op.move (Go.Operand.tmp 1), type := 23, pos := "more.go:23", after := #[{ on := 19, ground := Go.Ground.guard }], guard := some (19, true) }) (v := ?vzc24) rfl (by kernel_rfl) (by kernel_rfl) (by kernel_rfl) (fun _ _ _ h => h) (Or.inl ⟨by rfl, ?yzc24⟩) (by assumption) ?rzc24
  case yzc24 => (intro w hSw; (try dsimp only at hSw); go_simp; (try with_reducible rfl))
  (try simp only [Act.put, List.setIfInBounds_toArray, List.set_cons_zero, List.set_cons_succ])
  refine wpAnyH_take (i := 26) (oi := { dst := some 96, op := Go.Op.move (Go.Operand.tmp 0), type := 22, pos := "more.go:23", after := #[{ on := 19, ground := Go.Ground.guard }], guard := some (19, true) }) (v := ?vzc25) rfl (by kernel_rfl) (by kernel_rfl) (by kernel_rfl) (fun _ _ _ h => h) (Or.inl ⟨by rfl, ?yzc25⟩) (by assumption) ?rzc25
  case yzc25 => (intro w hSw; (try dsimp only at hSw); go_simp; (try with_reducible rfl))
  (try simp only [Act.put, List.setIfInBounds_toArray, List.set_cons_zero, List.set_cons_succ])
  refine wpAnyH_take (i := 27) (oi := { dst := some 97, op := Go.Op.move (Go.Operand.tmp 2), type := 3, pos := "more.go:23", after := #[{ on := 19, ground := Go.Ground.guard }], guard := some (19, true) }) (v := ?vzc26) rfl (by kernel_rfl) (by kernel_rfl) (by kernel_rfl) (fun _ _ _ h => h) (Or.inl ⟨by rfl, ?yzc26⟩) (by assumption) ?rzc26
  case yzc26 => (intro w hSw; (try dsimp only at hSw); go_simp; (try with_reducible rfl))
  (try simp only [Act.put, List.setIfInBounds_toArray, List.set_cons_zero, List.set_cons_succ])
  refine wpAnyH_take (i := 28) (oi := { dst := some 98, op := Go.Op.indexAddr 22 (Go.Operand.tmp 96) (Go.Operand.tmp 97), type := 0, pos := "more.go:23", after := #[{ on := 26, ground := Go.Ground.data }, { on := 27, ground := Go.Ground.data }, { on := 19, ground := Go.Ground.guard }], guard := some (19, true) }) (v := ?vzc27) rfl (by kernel_rfl) (by kernel_rfl) (by kernel_rfl) (fun _ _ _ h => h) (Or.inl ⟨by rfl, ?yzc27⟩) (by assumption) ?rzc27
  case yzc27 => (intro w hSw; (try dsimp only at hSw); go_simp; (try with_reducible rfl))
  (try simp only [Act.put, List.setIfInBounds_toArray, List.set_cons_zero, List.set_cons_succ])
  refine wpAnyH_take (i := 29) (oi := { dst := some 99, op := Go.Op.fieldAddr 37 (Go.Operand.tmp 98) 0, type := 0, pos := "more.go:23", after := #[{ on := 28, ground := Go.Ground.data }, { on := 19, ground := Go.Ground.guard }], guard := some (19, true) }) (v := ?vzc28) rfl (by kernel_rfl) (by kernel_rfl) (by kernel_rfl) (fun _ _ _ h => h) (Or.inl ⟨by rfl, ?yzc28⟩) (by assumption) ?rzc28
  case yzc28 => (intro w hSw; (try dsimp only at hSw); go_simp; (try with_reducible rfl))
  (try simp only [Act.put, List.setIfInBounds_toArray, List.set_cons_zero, List.set_cons_succ])
  refine wpAnyH_take (i := 30) (oi := { dst := some 100, op := Go.Op.load 3 (Go.Operand.tmp 99), type := 3, pos := "more.go:23", after := #[{ on := 29, ground := Go.Ground.data }, { on := 19, ground := Go.Ground.guard }], guard := some (19, true) }) (v := ?vzc29) rfl (by kernel_rfl) (by kernel_rfl) (by kernel_rfl) (fun _ _ _ h => h) (Or.inl ⟨by rfl, ?yzc29⟩) (by assumption) ?rzc29
  case yzc29 => (intro w hSw; (try dsimp only at hSw); go_simp; (try with_reducible rfl))
  (try simp only [Act.put, List.setIfInBounds_toArray, List.set_cons_zero, List.set_cons_succ])
  refine wpAnyH_take (i := 32) (oi := { dst := some 102, op := Go.Op.move (Go.Operand.tmp 0), type := 22, pos := "more.go:23", after := #[{ on := 19, ground := Go.Ground.guard }], guard := some (19, true) }) (v := ?vzc30) rfl (by kernel_rfl) (by kernel_rfl) (by kernel_rfl) (fun _ _ _ h => h) (Or.inl ⟨by rfl, ?yzc30⟩) (by assumption) ?rzc30
  case yzc30 => (intro w hSw; (try dsimp only at hSw); go_simp; (try with_reducible rfl))
  (try simp only [Act.put, List.setIfInBounds_toArray, List.set_cons_zero, List.set_cons_succ])
  refine wpAnyH_take (i := 33) (oi := { dst := some 103, op := Go.Op.move (Go.Operand.tmp 2), type := 3, pos := "more.go:23", after := #[{ on := 19, ground := Go.Ground.guard }], guard := some (19, true) }) (v := ?vzc31) rfl (by kernel_rfl) (by kernel_rfl) (by kernel_rfl) (fun _ _ _ h => h) (Or.inl ⟨by rfl, ?yzc31⟩) (by assumption) ?rzc31
  case yzc31 => (intro w hSw; (try dsimp only at hSw); go_simp; (try with_reducible rfl))
  (try simp only [Act.put, List.setIfInBounds_toArray, List.set_cons_zero, List.set_cons_succ])
  refine wpAnyH_take (i := 34) (oi := { dst := some 104, op := Go.Op.indexAddr 22 (Go.Operand.tmp 102) (Go.Operand.tmp 103), type := 0, pos := "more.go:23", after := #[{ on := 32, ground := Go.Ground.data }, { on := 33, ground := Go.Ground.data }, { on := 19, ground := Go.Ground.guard }], guard := some (19, true) }) (v := ?vzc32) rfl (by kernel_rfl) (by kernel_rfl) (by kernel_rfl) (fun _ _ _ h => h) (Or.inl ⟨by rfl, ?yzc32⟩) (by assumption) ?rzc32
  case yzc32 => (intro w hSw; (try dsimp only at hSw); go_simp; (try with_reducible rfl))
  (try simp only [Act.put, List.setIfInBounds_toArray, List.set_cons_zero, List.set_cons_succ])
  refine wpAnyH_take (i := 35) (oi := { dst := some 105, op := Go.Op.fieldAddr 37 (Go.Operand.tmp 104) 1, type := 0, pos := "more.go:23", after := #[{ on := 34, ground := Go.Ground.data }, { on := 19, ground := Go.Ground.guard }], guard := some (19, true) }) (v := ?vzc33) rfl (by kernel_rfl) (by kernel_rfl) (by kernel_rfl) (fun _ _ _ h => h) (Or.inl ⟨by rfl, ?yzc33⟩) (by assumption) ?rzc33
  case yzc33 => (intro w hSw; (try dsimp only at hSw); go_simp; (try with_reducible rfl))
  (try simp only [Act.put, List.setIfInBounds_toArray, List.set_cons_zero, List.set_cons_succ])
  refine wpAnyH_take (i := 36) (oi := { dst := some 106, op := Go.Op.load 35 (Go.Operand.tmp 105), type := 35, pos := "more.go:23", after := #[{ on := 35, ground := Go.Ground.data }, { on := 19, ground := Go.Ground.guard }], guard := some (19, true) }) (v := ?vzc34) rfl (by kernel_rfl) (by kernel_rfl) (by kernel_rfl) (fun _ _ _ h => h) (Or.inl ⟨by rfl, ?yzc34⟩) (by assumption) ?rzc34
  case yzc34 => (intro w hSw; (try dsimp only at hSw); go_simp; (try with_reducible rfl))
  (try simp only [Act.put, List.setIfInBounds_toArray, List.set_cons_zero, List.set_cons_succ])
  refine wpAnyH_take (i := 37) (oi := { dst := some 107, op := Go.Op.call { callee := Go.Callee.builtin Go.Builtin.len, args := #[Go.Operand.tmp 106], argTypes := #[35] }, type := 3, pos := "more.go:23", after := #[{ on := 36, ground := Go.Ground.data }, { on := 19, ground := Go.Ground.guard }], guard := some (19, true) }) (v := ?vzc35) rfl (by kernel_rfl) (by kernel_rfl) (by kernel_rfl) (fun _ _ _ h => h) (Or.inl ⟨by rfl, ?yzc35⟩) (by assumption) ?rzc35
  case yzc35 => (intro w hSw; (try dsimp only at hSw); go_simp; (try with_reducible rfl))
  (try simp only [Act.put, List.setIfInBounds_toArray, List.set_cons_zero, List.set_cons_succ])
  refine wpAnyH_ready (rs := [22]) (by kernel_rfl) (by simp) ?_
  refine (AllReadyH.cons (o := { dst := some 92, op := Go.Op.call { callee := Go.Callee.value (Go.Operand.func 19), args := #[Go.Operand.tmp 90, Go.Operand.tmp 91], argTypes := #[22, 23] }, type := 3, pos := "more.go:23", after := #[{ on := 20, ground := Go.Ground.data }, { on := 21, ground := Go.Ground.data }, { on := 19, ground := Go.Ground.chain }, { on := 19, ground := Go.Ground.guard }], guard := some (19, true) }) rfl (fun K hK => ?_) AllReadyH.nil)
  go_simp
  refine (kleft (HT.out.later ZC.out) (HX.out.later ZC.out) SM.out HLT.out HM.out (by omega) G3.out).mono ?_
  rintro e wz ⟨rfl, zb⟩
  go_wp2_with fail
  replace ZC := Lib.hid (keep_call (w2 := w4) zb ZC.out)
  clear zb
  refine hK.out _ _ (HK.out _ ZC.out) (fun hHeld2 => ?_)
  clear hK K hHeld
  have hHeld := hHeld2
  clear hHeld2
  (try simp only [Act.put, List.setIfInBounds_toArray, List.set_cons_zero, List.set_cons_succ])
  refine wpAnyH_ready (rs := [25]) (by kernel_rfl) (by simp) ?_
  refine (AllReadyH.cons (o := { dst := some 95, op := Go.Op.call { callee := Go.Callee.value (Go.Operand.func 19), args := #[Go.Operand.tmp 93, Go.Operand.tmp 94], argTypes := #[22, 23] }, type := 3, pos := "more.go:23", after := #[{ on := 23, ground := Go.Ground.data }, { on := 24, ground := Go.Ground.data }, { on := 22, ground := Go.Ground.chain }, { on := 19, ground := Go.Ground.guard }], guard := some (19, true) }) rfl (fun K hK => ?_) AllReadyH.nil)
  go_simp
  refine (kleft (HT.out.later ZC.out) (HS.out.later ZC.out) SM.out HLT.out HNS.out (by omega) HQ0.out).mono ?_
  rintro e wz ⟨rfl, zb⟩
  go_wp2_with fail
  replace ZC := Lib.hid (keep_call (w2 := w4) zb ZC.out)
  clear zb
  refine hK.out _ _ (HK.out _ ZC.out) (fun hHeld2 => ?_)
  clear hK K hHeld
  have hHeld := hHeld2
  clear hHeld2
  (try simp only [Act.put, List.setIfInBounds_toArray, List.set_cons_zero, List.set_cons_succ])
  refine wpAnyH_take (i := 31) (oi := { dst := some 101, op := Go.Op.binOp Go.BinOp.add 3 (Go.Operand.tmp 95) (Go.Operand.tmp 100) 3, type := 3, pos := "more.go:23", after := #[{ on := 25, ground := Go.Ground.data }, { on := 30, ground := Go.Ground.data }, { on := 19, ground := Go.Ground.guard }], guard := some (19, true) }) (v := ?vzc36) rfl (by kernel_rfl) (by kernel_rfl) (by kernel_rfl) (fun _ _ _ h => h) (Or.inl ⟨by rfl, ?yzc36⟩) (by assumption) ?rzc36
  case yzc36 => (intro w hSw; (try dsimp only at hSw); go_simp; (try with_reducible rfl))
  (try simp only [Act.put, List.setIfInBounds_toArray, List.set_cons_zero, List.set_cons_succ])
  refine wpAnyH_take (i := 38) (oi := { dst := some 108, op := Go.Op.binOp Go.BinOp.add 3 (Go.Operand.tmp 101) (Go.Operand.tmp 107) 3, type := 3, pos := "more.go:23", after := #[{ on := 31, ground := Go.Ground.data }, { on := 37, ground := Go.Ground.data }, { on := 19, ground := Go.Ground.guard }], guard := some (19, true) }) (v := ?vzc37) rfl (by kernel_rfl) (by kernel_rfl) (by kernel_rfl) (fun _ _ _ h => h) (Or.inl ⟨by rfl, ?yzc37⟩) (by assumption) ?rzc37
  case yzc37 => (intro w hSw; (try dsimp only at hSw); go_simp; (try with_reducible rfl))
  (try simp only [Act.put, List.setIfInBounds_toArray, List.set_cons_zero, List.set_cons_succ])
  refine wpAnyH_take (i := 39) (oi := { dst := some 109, op := Go.Op.binOp Go.BinOp.add 3 (Go.Operand.tmp 108) (Go.Operand.const (Go.Value.int Go.IntKind.i64 1)) 3, type := 3, pos := "more.go:23", after := #[{ on := 38, ground := Go.Ground.data }, { on := 19, ground := Go.Ground.guard }], guard := some (19, true) }) (v := ?vzc38) rfl (by kernel_rfl) (by kernel_rfl) (by kernel_rfl) (fun _ _ _ h => h) (Or.inl ⟨by rfl, ?yzc38⟩) (by assumption) ?rzc38
  case yzc38 => (intro w hSw; (try dsimp only at hSw); go_simp; (try with_reducible rfl))
  (try simp only [Act.put, List.setIfInBounds_toArray, List.set_cons_zero, List.set_cons_succ])
  refine wpAnyH_take (i := 40) (oi := { dst := some 110, op := Go.Op.binOp Go.BinOp.eql 3 (Go.Operand.tmp 92) (Go.Operand.tmp 109) 3, type := 4, pos := "more.go:23", after := #[{ on := 22, ground := Go.Ground.data }, { on := 39, ground := Go.Ground.data }, { on := 19, ground := Go.Ground.guard }], guard := some (19, true) }) (v := ?vzc39) rfl (by kernel_rfl) (by kernel_rfl) (by kernel_rfl) (fun _ _ _ h => h) (Or.inl ⟨by rfl, ?yzc39⟩) (by assumption) ?rzc39
  case yzc39 => (intro w hSw; (try dsimp only at hSw); go_simp; (try with_reducible rfl))
  (try simp only [Act.put, List.setIfInBounds_toArray, List.set_cons_zero, List.set_cons_succ])
  refine wpAnyH_take (i := 41) (oi := { dst := some 111, op := Go.Op.pick (Go.Operand.tmp 89) (Go.Operand.tmp 110) (Go.Operand.const (Go.Value.bool false)), type := 4, pos := "more.go:23", after := #[{ on := 19, ground := Go.Ground.data }, { on := 40, ground := Go.Ground.data }], guard := none }) (v := ?vzc40) rfl (by kernel_rfl) (by kernel_rfl) (by kernel_rfl) (fun _ _ _ h => h) (Or.inl ⟨by rfl, ?yzc40⟩) (by assumption) ?rzc40
  case yzc40 => (intro w hSw; (try dsimp only at hSw); go_simp; (try with_reducible rfl))
  (try simp only [Act.put, List.setIfInBounds_toArray, List.set_cons_zero, List.set_cons_succ])
  refine wpAnyH_take (i := 42) (oi := { dst := some 8, op := Go.Op.assign (Go.Operand.tmp 111), type := 4, pos := "more.go:23", after := #[{ on := 41, ground := Go.Ground.data }, { on := 25, ground := Go.Ground.chain }, { on := 0, ground := Go.Ground.phase }, { on := 1, ground := Go.Ground.phase }, { on := 2, ground := Go.Ground.phase }, { on := 3, ground := Go.Ground.phase }, { on := 4, ground := Go.Ground.phase }, { on := 5, ground := Go.Ground.phase }, { on := 6, ground := Go.Ground.phase }, { on := 7, ground := Go.Ground.phase }, { on := 8, ground := Go.Ground.phase }, { on := 9, ground := Go.Ground.phase }, { on := 10, ground := Go.Ground.phase }, { on := 11, ground := Go.Ground.phase }, { on := 12, ground := Go.Ground.phase }, { on := 13, ground := Go.Ground.phase }, { on := 14, ground := Go.Ground.phase }, { on := 15, ground := Go.Ground.phase }, { on := 16, ground := Go.Ground.phase }, { on := 17, ground := Go.Ground.phase }, { on := 18, ground := Go.Ground.phase }, { on := 19, ground := Go.Ground.phase }, { on := 20, ground := Go.Ground.phase }, { on := 21, ground := Go.Ground.phase }, { on := 22, ground := Go.Ground.phase }, { on := 23, ground := Go.Ground.phase }, { on := 24, ground := Go.Ground.phase }, { on := 25, ground := Go.Ground.phase }, { on := 26, ground := Go.Ground.phase }, { on := 27, ground := Go.Ground.phase }, { on := 28, ground := Go.Ground.phase }, { on := 29, ground := Go.Ground.phase }, { on := 30, ground := Go.Ground.phase }, { on := 31, ground := Go.Ground.phase }, { on := 32, ground := Go.Ground.phase }, { on := 33, ground := Go.Ground.phase }, { on := 34, ground := Go.Ground.phase }, { on := 35, ground := Go.Ground.phase }, { on := 36, ground := Go.Ground.phase }, { on := 37, ground := Go.Ground.phase }, { on := 38, ground := Go.Ground.phase }, { on := 39, ground := Go.Ground.phase }, { on := 40, ground := Go.Ground.phase }, { on := 41, ground := Go.Ground.phase }], guard := none }) (v := ?vzc41) rfl (by kernel_rfl) (by kernel_rfl) (by kernel_rfl) (fun _ _ _ h => h) (Or.inl ⟨by rfl, ?yzc41⟩) (by assumption) ?rzc41
  case yzc41 => (intro w hSw; (try dsimp only at hSw); go_simp; (try with_reducible rfl))
  (try simp only [Act.put, List.setIfInBounds_toArray, List.set_cons_zero, List.set_cons_succ])
  refine wpAnyH_done (by kernel_rfl) ?_ _
  go_wp2
  go_ret
  exact ⟨by simp [HWR.out], Z.out.trans (ZC.out.mono Z.out.size)⟩
theorem start_any (A S : Option Addr) (c lt cS nS : Nat) (T : List Tsk) (lS : List Itm) (k : Int) (i : Int) (w : World) (hT : Tk w.heap.size w A T) (htl : T.length ≤ maxLen) (hkl : ∀ x ∈ T, x.2.length ≤ maxLen) (hlt : T.length = lt) (hS : Ir w.heap.size w S lS) (hnS : lS.length = nS) (hmS : nS ≤ maxLen) (hcS : nS ≤ cS) (hdS : cS ≤ maxLen) (heS : S = none → cS = 0) : Tells 6 #[.slice A lt c, .slice S nS cS, .int .i64 k, .int .i64 i] w (.bool true) := by
  cases hfew : few T
  · exact start_few A S c lt cS nS T lS k i w hT htl hkl hlt hS hnS hmS hcS hdS heS hfew
  by_cases hlS : 40 < nS
  · exact start_longS A S c lt cS nS T lS k i w hT htl hkl hlt hS hnS hmS hcS hdS heS hfew hlS
  have hlS1 : nS ≤ 40 := by omega
  cases hmay : mayS T lS
  · exact start_no A S c lt cS nS T lS k i w hT htl hkl hlt hS hnS hmS hcS hdS heS hfew hlS1 hmay
  by_cases hk0 : k < 0
  · exact start_outa A S c lt cS nS T lS k i w hT htl hkl hlt hS hnS hmS hcS hdS heS hfew hlS1 hmay hk0
  by_cases hk : (lt : Int) ≤ k
  · exact start_outb A S c lt cS nS T lS k i w hT htl hkl hlt hS hnS hmS hcS hdS heS hfew hlS1 hmay hk hk0
  by_cases hi : i < 0
  · exact start_low A S c lt cS nS T lS k i w hT htl hkl hlt hS hnS hmS hcS hdS heS hfew hlS1 hmay (by omega) (by omega) hi
  by_cases hi2 : (nS : Int) ≤ i
  · exact start_high A S c lt cS nS T lS k i w hT htl hkl hlt hS hnS hmS hcS hdS heS hfew hlS1 hmay (by omega) (by omega) hi2 (by omega)
  · exact start_in A S c lt cS nS T lS k i w hT htl hkl hlt hS hnS hmS hcS hdS heS hfew hlS1 hmay (by omega) (by omega) (by omega) (by omega)
end Go.Proofs.Ytobcedlkmnmikaa.Fo
