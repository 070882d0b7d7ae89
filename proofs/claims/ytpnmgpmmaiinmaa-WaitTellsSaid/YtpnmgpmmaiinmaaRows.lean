/-
  No cell of these rows narrows 'for every input' (looked for: loops, veiled, ifaces, maps, wideKeys, modest, calm, conditions, laid).
  DERIVED. THE GIVEN ROWS OF THIS SEAT. 6 by the template 'for every input the law returns true; each argument reads behind the call as it read before'; 0 by the template 'total and deterministic' (their statements: YtpnmgpmmaiinmaaTotals.lean).
  GIVEN WITH THE SEED: the statements are not yours to turn. If you find one false, say at which input.
  Laid BY PROGRAM, IN A SANDBOX (cutbox-rows.mjs): the forced cells as the released guide's own fill.sh prints them over the translation 60ec87cd2d1f3e8f… (all of the seat's roots in one cut). By AI agents, Wed Nov 11 2026. No macro, syntax, notation, axiom, sorry.
-/
import Derived.Test.YtpnmgpmmaiinmaaChecked
import GoSem.Claim
import GoSem.ClaimJoined
import GoSem.ClaimMapViews
import Derived.JoinedTies
import Derived.KernelRfl
namespace Go.Proofs.Ytpnmgpmmaiinmaa
/- THE CELL 'sum', in the pinned program and in every row, IS THE sha256 OF THE DUMP (.gsa) THAT YtpnmgpmmaiinmaaProg.lean LOADS. Nothing in Lean hashes anything: it is a label: what it is worth is what the hold of that sum in a sandbox is worth. -/
noncomputable def Try.pinned : Pinned := { name := "ytpnmgpmmaiinmaa", sum := "60ec87cd2d1f3e8f74accfd629eb219eab318938be7663b403f37d58ade263e4", checked := Try.checked }
namespace Rows
def none {H : Type} : Left H := { results := [], args := [] }

/-- 'poacherlaw14.WaitTells': WHATEVER THE INPUT: true; the input reads as it did. -/
def waitTellsSpec : ChangeSpec := { name := "waitTells", fn := fun _ => fun
  | [d1, d2, d3] => { results := [.lit (.bool true)], args := [d1, d2, d3] }
  | _ => none }
def waitTellsRow : OpenClaim := { program := "ytpnmgpmmaiinmaa", sum := "60ec87cd2d1f3e8f74accfd629eb219eab318938be7663b403f37d58ade263e4", func := "poacher/poacherlaw14.WaitTells", spec := "waitTells", unfollowed := true, recurses := true, apart := false }
def WaitTellsSaid : Prop := waitTellsRow.holds Try.pinned (OpenSpec.ofChange waitTellsSpec)

/-- ITS FALSE NEIGHBOUR: 'it returns false'. Refute it at one input. -/
def waitTellsWrong : ChangeSpec := { name := "waitTells", fn := fun _ => fun
  | [d1, d2, d3] => { results := [.lit (.bool false)], args := [d1, d2, d3] }
  | _ => none }
def WaitTellsWrongFalsely : Prop := waitTellsRow.holds Try.pinned (OpenSpec.ofChange waitTellsWrong)

/-- 'poacherlaw14.WaitAlone': WHATEVER THE INPUT: true; the input reads as it did. -/
def waitAloneSpec : ChangeSpec := { name := "waitAlone", fn := fun _ => fun
  | [d1, d2, d3, d4] => { results := [.lit (.bool true)], args := [d1, d2, d3, d4] }
  | _ => none }
def waitAloneRow : OpenClaim := { program := "ytpnmgpmmaiinmaa", sum := "60ec87cd2d1f3e8f74accfd629eb219eab318938be7663b403f37d58ade263e4", func := "poacher/poacherlaw14.WaitAlone", spec := "waitAlone", unfollowed := true, recurses := true, apart := false }
def WaitAloneSaid : Prop := waitAloneRow.holds Try.pinned (OpenSpec.ofChange waitAloneSpec)

/-- ITS FALSE NEIGHBOUR: 'it returns false'. Refute it at one input. -/
def waitAloneWrong : ChangeSpec := { name := "waitAlone", fn := fun _ => fun
  | [d1, d2, d3, d4] => { results := [.lit (.bool false)], args := [d1, d2, d3, d4] }
  | _ => none }
def WaitAloneWrongFalsely : Prop := waitAloneRow.holds Try.pinned (OpenSpec.ofChange waitAloneWrong)

/-- 'poacherlaw14.WaitMissed': WHATEVER THE INPUT: true; the input reads as it did. -/
def waitMissedSpec : ChangeSpec := { name := "waitMissed", fn := fun _ => fun
  | [d1, d2, d3, d4] => { results := [.lit (.bool true)], args := [d1, d2, d3, d4] }
  | _ => none }
def waitMissedRow : OpenClaim := { program := "ytpnmgpmmaiinmaa", sum := "60ec87cd2d1f3e8f74accfd629eb219eab318938be7663b403f37d58ade263e4", func := "poacher/poacherlaw14.WaitMissed", spec := "waitMissed", unfollowed := true, recurses := true, apart := false }
def WaitMissedSaid : Prop := waitMissedRow.holds Try.pinned (OpenSpec.ofChange waitMissedSpec)

/-- ITS FALSE NEIGHBOUR: 'it returns false'. Refute it at one input. -/
def waitMissedWrong : ChangeSpec := { name := "waitMissed", fn := fun _ => fun
  | [d1, d2, d3, d4] => { results := [.lit (.bool false)], args := [d1, d2, d3, d4] }
  | _ => none }
def WaitMissedWrongFalsely : Prop := waitMissedRow.holds Try.pinned (OpenSpec.ofChange waitMissedWrong)

/-- 'poacherlaw14.WaitCells': WHATEVER THE INPUT: true; the input reads as it did. -/
def waitCellsSpec : ChangeSpec := { name := "waitCells", fn := fun _ => fun
  | [d1, d2, d3] => { results := [.lit (.bool true)], args := [d1, d2, d3] }
  | _ => none }
def waitCellsRow : OpenClaim := { program := "ytpnmgpmmaiinmaa", sum := "60ec87cd2d1f3e8f74accfd629eb219eab318938be7663b403f37d58ade263e4", func := "poacher/poacherlaw14.WaitCells", spec := "waitCells", unfollowed := true, recurses := true, apart := false }
def WaitCellsSaid : Prop := waitCellsRow.holds Try.pinned (OpenSpec.ofChange waitCellsSpec)

/-- ITS FALSE NEIGHBOUR: 'it returns false'. Refute it at one input. -/
def waitCellsWrong : ChangeSpec := { name := "waitCells", fn := fun _ => fun
  | [d1, d2, d3] => { results := [.lit (.bool false)], args := [d1, d2, d3] }
  | _ => none }
def WaitCellsWrongFalsely : Prop := waitCellsRow.holds Try.pinned (OpenSpec.ofChange waitCellsWrong)

/-- 'poacherlaw14.WaitTwo': WHATEVER THE INPUT: true; the input reads as it did. -/
def waitTwoSpec : ChangeSpec := { name := "waitTwo", fn := fun _ => fun
  | [d1, d2, d3, d4] => { results := [.lit (.bool true)], args := [d1, d2, d3, d4] }
  | _ => none }
def waitTwoRow : OpenClaim := { program := "ytpnmgpmmaiinmaa", sum := "60ec87cd2d1f3e8f74accfd629eb219eab318938be7663b403f37d58ade263e4", func := "poacher/poacherlaw14.WaitTwo", spec := "waitTwo", unfollowed := true, recurses := true, apart := false }
def WaitTwoSaid : Prop := waitTwoRow.holds Try.pinned (OpenSpec.ofChange waitTwoSpec)

/-- ITS FALSE NEIGHBOUR: 'it returns false'. Refute it at one input. -/
def waitTwoWrong : ChangeSpec := { name := "waitTwo", fn := fun _ => fun
  | [d1, d2, d3, d4] => { results := [.lit (.bool false)], args := [d1, d2, d3, d4] }
  | _ => none }
def WaitTwoWrongFalsely : Prop := waitTwoRow.holds Try.pinned (OpenSpec.ofChange waitTwoWrong)

/-- 'poacherlaw14.WaitAgain': WHATEVER THE INPUT: true; the input reads as it did. -/
def waitAgainSpec : ChangeSpec := { name := "waitAgain", fn := fun _ => fun
  | [d1, d2, d3, d4] => { results := [.lit (.bool true)], args := [d1, d2, d3, d4] }
  | _ => none }
def waitAgainRow : OpenClaim := { program := "ytpnmgpmmaiinmaa", sum := "60ec87cd2d1f3e8f74accfd629eb219eab318938be7663b403f37d58ade263e4", func := "poacher/poacherlaw14.WaitAgain", spec := "waitAgain", unfollowed := true, recurses := true, apart := false }
def WaitAgainSaid : Prop := waitAgainRow.holds Try.pinned (OpenSpec.ofChange waitAgainSpec)

/-- ITS FALSE NEIGHBOUR: 'it returns false'. Refute it at one input. -/
def waitAgainWrong : ChangeSpec := { name := "waitAgain", fn := fun _ => fun
  | [d1, d2, d3, d4] => { results := [.lit (.bool false)], args := [d1, d2, d3, d4] }
  | _ => none }
def WaitAgainWrongFalsely : Prop := waitAgainRow.holds Try.pinned (OpenSpec.ofChange waitAgainWrong)

/- THE SECOND FORM. 'bulk': how many values and letters a reading holds, each counted each time it is reached (what is shared counts as often as it is met; a slice's spare places count too). A statement '..UptoSaid' is the law's where the arguments, and the package variables that the reading takes, are together of bulk at most 1048576: NARROWER than '..Said'. Prove '..Said' where nothing that the law and all that it calls make is longer than what came in: it says more and counts as full. Else prove '..UptoSaid'. A law counts once. -/
mutual
def uptoBulk {H : Type} : DataW H → Nat
  | .lit (.string bytes) => bytes.length + 1
  | .lit _ => 1
  | .nil => 1
  | .ptr d => uptoBulk d + 1
  | .slice elems spare => uptoBulkAll elems + uptoBulkAll spare + 1
  | .agg parts => uptoBulkAll parts + 1
  | .iface _ d => uptoBulk d + 1
  | .map entries => uptoBulkEntries entries + 1
  | .held _ => 1
def uptoBulkAll {H : Type} : List (DataW H) → Nat
  | [] => 0
  | d :: r => uptoBulk d + uptoBulkAll r
def uptoBulkEntries {H : Type} : List (Lit × DataW H) → Nat
  | [] => 0
  | x :: r => uptoBulkEntry x + uptoBulkEntries r
def uptoBulkEntry {H : Type} : Lit × DataW H → Nat
  | (.string bytes, d) => bytes.length + uptoBulk d + 1
  | (_, d) => uptoBulk d + 1
 end
def uptoSmall : (H : Type) → List (DataW H) → Bool := fun _ ds => decide (uptoBulkAll ds ≤ 1048576)
def OpenSpec.upto (s : _root_.Go.ChangeSpec) : _root_.Go.OpenSpec := { _root_.Go.OpenSpec.ofChange s with cond := some uptoSmall }

/-- 'poacherlaw14.WaitTells', WHERE WHAT IT READS IS OF BULK AT MOST 1048576: true; the input reads as it did. -/
def waitTellsUptoRow : OpenClaim := { program := "ytpnmgpmmaiinmaa", sum := "60ec87cd2d1f3e8f74accfd629eb219eab318938be7663b403f37d58ade263e4", func := "poacher/poacherlaw14.WaitTells", spec := "waitTells", unfollowed := true, recurses := true, apart := false, narrowed := true }
def WaitTellsUptoSaid : Prop := waitTellsUptoRow.holds Try.pinned (OpenSpec.upto waitTellsSpec)

/-- 'poacherlaw14.WaitAlone', WHERE WHAT IT READS IS OF BULK AT MOST 1048576: true; the input reads as it did. -/
def waitAloneUptoRow : OpenClaim := { program := "ytpnmgpmmaiinmaa", sum := "60ec87cd2d1f3e8f74accfd629eb219eab318938be7663b403f37d58ade263e4", func := "poacher/poacherlaw14.WaitAlone", spec := "waitAlone", unfollowed := true, recurses := true, apart := false, narrowed := true }
def WaitAloneUptoSaid : Prop := waitAloneUptoRow.holds Try.pinned (OpenSpec.upto waitAloneSpec)

/-- 'poacherlaw14.WaitMissed', WHERE WHAT IT READS IS OF BULK AT MOST 1048576: true; the input reads as it did. -/
def waitMissedUptoRow : OpenClaim := { program := "ytpnmgpmmaiinmaa", sum := "60ec87cd2d1f3e8f74accfd629eb219eab318938be7663b403f37d58ade263e4", func := "poacher/poacherlaw14.WaitMissed", spec := "waitMissed", unfollowed := true, recurses := true, apart := false, narrowed := true }
def WaitMissedUptoSaid : Prop := waitMissedUptoRow.holds Try.pinned (OpenSpec.upto waitMissedSpec)

/-- 'poacherlaw14.WaitCells', WHERE WHAT IT READS IS OF BULK AT MOST 1048576: true; the input reads as it did. -/
def waitCellsUptoRow : OpenClaim := { program := "ytpnmgpmmaiinmaa", sum := "60ec87cd2d1f3e8f74accfd629eb219eab318938be7663b403f37d58ade263e4", func := "poacher/poacherlaw14.WaitCells", spec := "waitCells", unfollowed := true, recurses := true, apart := false, narrowed := true }
def WaitCellsUptoSaid : Prop := waitCellsUptoRow.holds Try.pinned (OpenSpec.upto waitCellsSpec)

/-- 'poacherlaw14.WaitTwo', WHERE WHAT IT READS IS OF BULK AT MOST 1048576: true; the input reads as it did. -/
def waitTwoUptoRow : OpenClaim := { program := "ytpnmgpmmaiinmaa", sum := "60ec87cd2d1f3e8f74accfd629eb219eab318938be7663b403f37d58ade263e4", func := "poacher/poacherlaw14.WaitTwo", spec := "waitTwo", unfollowed := true, recurses := true, apart := false, narrowed := true }
def WaitTwoUptoSaid : Prop := waitTwoUptoRow.holds Try.pinned (OpenSpec.upto waitTwoSpec)

/-- 'poacherlaw14.WaitAgain', WHERE WHAT IT READS IS OF BULK AT MOST 1048576: true; the input reads as it did. -/
def waitAgainUptoRow : OpenClaim := { program := "ytpnmgpmmaiinmaa", sum := "60ec87cd2d1f3e8f74accfd629eb219eab318938be7663b403f37d58ade263e4", func := "poacher/poacherlaw14.WaitAgain", spec := "waitAgain", unfollowed := true, recurses := true, apart := false, narrowed := true }
def WaitAgainUptoSaid : Prop := waitAgainUptoRow.holds Try.pinned (OpenSpec.upto waitAgainSpec)

end Rows
end Go.Proofs.Ytpnmgpmmaiinmaa
