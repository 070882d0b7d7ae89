/- For every input LayMay returns true and leaves its argument as it was; no condition. -/
import Derived.Test.YtmmojjpmnmjbkaaRows
import Derived.Test.YtmmojjpmnmjbkaaMayW
import Derived.WalkKit
import Derived.ProofKit
import Derived.OpenShut
import Derived.ShutString
import Derived.ChangeOld
import Derived.Below
import Derived.Lib.SmallJoins
namespace Go.Proofs.Ytmmojjpmnmjbkaa.layMay
open Go.ChangeShapes Go.WideShapes Go.ChangeAt Go.RowKit Go.Joins
set_option linter.unusedVariables false

theorem own : ownKnob Try.prog.godebug = none := by kernel_rfl
theorem walk (aW0 aD0 aJ0 aS0 : Int) (wW0 : (Lit.int .i64 aW0).wf = true) (wD0 : (Lit.int .i64 aD0).wf = true) (wJ0 : (Lit.int .i64 aJ0).wf = true) (wS0 : (Lit.int .i64 aS0).wf = true) (w : World) :
    Calls Try.prog 7 #[.agg #[.int .i64 aW0, .int .i64 aD0, .int .i64 aJ0, .int .i64 aS0]] w fun e w' => e = .returned (.bool true) ∧ Below w.heap.size w w' := by
  exact layMay_walk aW0 aD0 aJ0 aS0 w

set_option maxRecDepth 100000 in
theorem lifted (os : Os) (started : os.Started) (H : Type) (enc : TypeId × Value → H) :
    ReturnsInHanded {} Try.checked os 7 .any (Rows.layMaySpec.pre6 enc Try.prog Try.f7 Rows.layMayRow.domain false) (Rows.layMaySpec.post enc Try.prog Try.f7 false true false false) := by
  refine returnsInHanded_of_change (C := Try.checked) own started (by kernel_rfl) Try.func7
    (ChangeSpec.witness6 (enc := enc) (C := Try.checked) false ⟨#[], #[.agg #[.int .i64 0, .int .i64 0, .int .i64 0, .int .i64 0]], []⟩ 8 (by kernel_rfl) (by kernel_rfl) (by kernel_rfl) (by kernel_rfl)) ?_
  intro W base args ds gs before hval0 hW hcnd _
  have hval : ∀ (j : Nat) t v, Try.f7.params[j]? = some t → args[j]? = some v → Value.okWide Try.prog W .any base t v := hval0
  have hW' := hW
  obtain ⟨p, q, hA0, hV, rfl, hfz, hnd⟩ := hW
  have hA : DataW.TrodAll enc Try.prog W 0 (fun _ => true) true Try.f7.params.toList args.toList ds p := hA0
  rw [Try.params7] at hA hval
  obtain ⟨v0, vs0, d0, ds0, p0, q0, hargs, rfl, rfl, h0, r0⟩ := trodAll_cons hA
  obtain ⟨rfl, rfl, rfl⟩ := trodAll_nil r0
  obtain rfl : args = #[v0] := by cases args; simp_all
  obtain ⟨rfl, rfl⟩ := trodVars_none hV
  obtain ⟨c00, c01, c02, c03, y00, y01, y02, y03, m0, rfl, rfl, rfl, hy00, hy01, hy02, hy03⟩ := open_agg4 Try.underlying23 (by kernel_rfl) (by kernel_rfl) (hval 0 23 v0 rfl rfl) h0
  obtain ⟨aW0, e00, rfl, wW0⟩ := DataW.trod_int Try.underlying3 hy00
  obtain ⟨aD0, e01, rfl, wD0⟩ := DataW.trod_int Try.underlying3 hy01
  obtain ⟨aJ0, e02, rfl, wJ0⟩ := DataW.trod_int Try.underlying3 hy02
  obtain ⟨aS0, e03, rfl, wS0⟩ := DataW.trod_int Try.underlying3 hy03
  simp at e00 e01 e02 e03
  subst e00 e01 e02 e03
  clear hA0 hval0
  refine (walk aW0 aD0 aJ0 aS0 wW0 wD0 wJ0 wS0 W).mono fun e W' ⟨he, bel⟩ => ?_
  subst he
  exact ⟨_, rfl, _, _, _, [], _, [], hW', trodAll_mk1 (shut_bool Try.underlying4 _), (trodAll_cons_mk (shut_agg4 Try.underlying23 (by kernel_rfl) (by kernel_rfl) (field_of_Trod (shut_int Try.underlying3 wW0) rfl) (field_of_Trod (shut_int Try.underlying3 wD0) rfl) (field_of_Trod (shut_int Try.underlying3 wJ0) rfl) (field_of_Trod (shut_int Try.underlying3 wS0) rfl)) trodAll_mk0), rfl, bel.frame _, fun h => by cases h⟩

theorem over : Rows.layMayRow.holds Try.pinned (OpenSpec.ofChange Rows.layMaySpec) :=
  OpenClaim.holds_of_wide 7 Try.f7 rfl rfl rfl rfl rfl rfl rfl ⟨rfl, rfl, rfl, rfl, rfl⟩ rfl rfl rfl rfl rfl (by kernel_rfl) Try.func7 (by kernel_rfl)
    (of_decide_eq_true (by kernel_rfl)) (by unfold Func.isWrapper; first | (rw [if_pos (by decide +kernel)]; kernel_rfl) | (rw [if_neg (by decide +kernel)]; exact ⟨rfl, rfl⟩))
    (fun os started H enc _ => lifted os started H enc)

theorem proved : Rows.LayMaySaid :=
  over
#print axioms proved
end Go.Proofs.Ytmmojjpmnmjbkaa.layMay
