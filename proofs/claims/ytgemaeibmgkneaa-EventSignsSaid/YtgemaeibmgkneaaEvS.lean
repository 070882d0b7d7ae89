/- What the lists of a play tell the laws of the event. -/
import Derived.Test.YtgemaeibmgkneaaEvW
import Derived.Test.YtgemaeibmgkneaaEvO
namespace Go.Proofs.Ytgemaeibmgkneaa
open Go.RowKit Go.Deep
set_option maxRecDepth 100000 in
theorem may1_iff {n : Nat} : may n 1 1 0 = true ↔ 1 ≤ n ∧ n ≤ 8 := by
  constructor
  · exact may11
  · intro ⟨h1, h2⟩
    have hc : n = 1 ∨ n = 2 ∨ n = 3 ∨ n = 4 ∨ n = 5 ∨ n = 6 ∨ n = 7 ∨ n = 8 := by omega
    rcases hc with rfl | rfl | rfl | rfl | rfl | rfl | rfl | rfl <;> decide
set_option maxRecDepth 100000 in
theorem ow_no {n : Nat} (h : may n 1 1 0 = false) (x : Int) : ow n 1 1 0 x 2 = -1 := by
  unfold ow; rw [h]; rfl
set_option maxRecDepth 100000 in
theorem ow_yes {n : Nat} (h : may n 1 1 0 = true) {x : Nat} (hx : x < n) : ow n 1 1 0 x 2 = pkI 1 1 x := by
  unfold ow
  rw [h]
  have e : wi (x : Int) 0 ((n : Int) - 1) = true := by unfold wi; simp; omega
  rw [e]; rfl
section
variable {calls : List (List Int)} {who : List Int}
set_option maxRecDepth 100000 in
theorem plE_no (h : may calls.length 1 1 0 = false) : plE calls who = ([], [], []) := by
  unfold plE; rw [if_neg (by rw [h]; simp)]
set_option maxRecDepth 100000 in
theorem plE_yes (h : may calls.length 1 1 0 = true) : plE calls who = ((playE calls who).m, (playE calls who).a, (playE calls who).over) := by
  unfold plE; rw [if_pos h]
set_option maxRecDepth 100000 in
theorem stE_no (h : may calls.length 1 1 0 = false) (x : Int) : stE calls who x = -1 := by
  unfold stE; rw [ow_no h, if_pos (by omega)]
set_option maxRecDepth 100000 in
/-- The signs of one. -/
theorem signs_E (h : may calls.length 1 1 0 = true) (hw : who.length ≤ 500) {x : Nat} (hx : x < calls.length) :
    stE calls who x = ((inE ((playE calls who).a.getD x fnE) : Nat) : Int) ∧ (((playE calls who).a.getD x fnE).op = 5 → ((playE calls who).a.getD x fnE).pc < 5 ∧ (((playE calls who).a.getD x fnE).pc = 4 → at0 (playE calls who).m (ow calls.length 1 1 0 x 2) = 1)) := by
  obtain ⟨h1, h8⟩ := may11 h
  have H := HE.play h1 h8 who hw
  have ho := ow_yes h hx
  refine ⟨?_, fun e5 => ?_⟩
  · rw [← H.si.sg x (by omega)]
    unfold stE
    rw [ho, if_neg (by unfold pkI bg; omega), plE_yes h]
    have e1 : (if wts calls.length 1 1 0 (playE calls who).m x = true then 1 else 0) = bitE (playE calls who).m x := by
      unfold wts bitE
      rw [okw_of H.si.ok (by omega) (by omega), Bool.true_and, st_has _ x (by omega), bit_mask _ x (by omega)]
      simp
    have e2 : (if at0 (playE calls who).m (pkI 1 1 x) = 0 then 0 else 1) = prkE (playE calls who).m x := rfl
    simp only
    rw [e1, e2]
    rfl
  · have F := H.si.at hx rfl (by rw [e5]; decide)
    exact ⟨F.pc5 e5, fun e4 => by rw [ho]; exact F.p4 e5 e4⟩
end
end Go.Proofs.Ytgemaeibmgkneaa
