/-
  No cell of these rows narrows 'for every input' (looked for: loops, veiled, ifaces, maps, wideKeys, modest, calm, conditions, laid).
  DERIVED. THE GIVEN ROWS OF THIS SEAT. 6 by the template 'for every input the law returns true; each argument reads behind the call as it read before'; 0 by the template 'total and deterministic' (their statements: YtomlgglcfbdimaaTotals.lean).
  GIVEN WITH THE SEED: the statements are not yours to turn. If you find one false, say at which input.
  Laid BY PROGRAM, IN A SANDBOX (cutbox-rows.mjs): the forced cells as the released guide's own fill.sh prints them over the translation e594d66b4ca8f7ea… (all of the seat's roots in one cut). By AI agents, Wed Nov 11 2026. No macro, syntax, notation, axiom, sorry.
-/
import Derived.Test.YtomlgglcfbdimaaChecked
import GoSem.Claim
import GoSem.ClaimJoined
import GoSem.ClaimMapViews
import Derived.JoinedTies
import Derived.KernelRfl
namespace Go.Proofs.Ytomlgglcfbdimaa
/- THE CELL 'sum', in the pinned program and in every row, IS THE sha256 OF THE DUMP (.gsa) THAT YtomlgglcfbdimaaProg.lean LOADS. Nothing in Lean hashes anything: it is a label: what it is worth is what the hold of that sum in a sandbox is worth. -/
noncomputable def Try.pinned : Pinned := { name := "ytomlgglcfbdimaa", sum := "e594d66b4ca8f7ea08ad01a7c630ffed6b98d897101050053658e90b2f1cd86b", checked := Try.checked }
namespace Rows
def none {H : Type} : Left H := { results := [], args := [] }

/-- 'poacherlaw09.StealTells': WHATEVER THE INPUT: true; the input reads as it did. -/
def stealTellsSpec : ChangeSpec := { name := "stealTells", fn := fun _ => fun
  | [d1, d2, d3] => { results := [.lit (.bool true)], args := [d1, d2, d3] }
  | _ => none }
def stealTellsRow : OpenClaim := { program := "ytomlgglcfbdimaa", sum := "e594d66b4ca8f7ea08ad01a7c630ffed6b98d897101050053658e90b2f1cd86b", func := "poacher/poacherlaw09.StealTells", spec := "stealTells", unfollowed := true, recurses := true, apart := false }
def StealTellsSaid : Prop := stealTellsRow.holds Try.pinned (OpenSpec.ofChange stealTellsSpec)

/-- ITS FALSE NEIGHBOUR: 'it returns false'. Refute it at one input. -/
def stealTellsWrong : ChangeSpec := { name := "stealTells", fn := fun _ => fun
  | [d1, d2, d3] => { results := [.lit (.bool false)], args := [d1, d2, d3] }
  | _ => none }
def StealTellsWrongFalsely : Prop := stealTellsRow.holds Try.pinned (OpenSpec.ofChange stealTellsWrong)

/-- 'poacherlaw09.StealAlone': WHATEVER THE INPUT: true; the input reads as it did. -/
def stealAloneSpec : ChangeSpec := { name := "stealAlone", fn := fun _ => fun
  | [d1, d2, d3] => { results := [.lit (.bool true)], args := [d1, d2, d3] }
  | _ => none }
def stealAloneRow : OpenClaim := { program := "ytomlgglcfbdimaa", sum := "e594d66b4ca8f7ea08ad01a7c630ffed6b98d897101050053658e90b2f1cd86b", func := "poacher/poacherlaw09.StealAlone", spec := "stealAlone", unfollowed := true, recurses := true, apart := false }
def StealAloneSaid : Prop := stealAloneRow.holds Try.pinned (OpenSpec.ofChange stealAloneSpec)

/-- ITS FALSE NEIGHBOUR: 'it returns false'. Refute it at one input. -/
def stealAloneWrong : ChangeSpec := { name := "stealAlone", fn := fun _ => fun
  | [d1, d2, d3] => { results := [.lit (.bool false)], args := [d1, d2, d3] }
  | _ => none }
def StealAloneWrongFalsely : Prop := stealAloneRow.holds Try.pinned (OpenSpec.ofChange stealAloneWrong)

/-- 'poacherlaw09.StealAbort': WHATEVER THE INPUT: true; the input reads as it did. -/
def stealAbortSpec : ChangeSpec := { name := "stealAbort", fn := fun _ => fun
  | [d1, d2, d3] => { results := [.lit (.bool true)], args := [d1, d2, d3] }
  | _ => none }
def stealAbortRow : OpenClaim := { program := "ytomlgglcfbdimaa", sum := "e594d66b4ca8f7ea08ad01a7c630ffed6b98d897101050053658e90b2f1cd86b", func := "poacher/poacherlaw09.StealAbort", spec := "stealAbort", unfollowed := true, recurses := true, apart := false }
def StealAbortSaid : Prop := stealAbortRow.holds Try.pinned (OpenSpec.ofChange stealAbortSpec)

/-- ITS FALSE NEIGHBOUR: 'it returns false'. Refute it at one input. -/
def stealAbortWrong : ChangeSpec := { name := "stealAbort", fn := fun _ => fun
  | [d1, d2, d3] => { results := [.lit (.bool false)], args := [d1, d2, d3] }
  | _ => none }
def StealAbortWrongFalsely : Prop := stealAbortRow.holds Try.pinned (OpenSpec.ofChange stealAbortWrong)

/-- 'poacherlaw09.StealCells': WHATEVER THE INPUT: true; the input reads as it did. -/
def stealCellsSpec : ChangeSpec := { name := "stealCells", fn := fun _ => fun
  | [d1, d2, d3] => { results := [.lit (.bool true)], args := [d1, d2, d3] }
  | _ => none }
def stealCellsRow : OpenClaim := { program := "ytomlgglcfbdimaa", sum := "e594d66b4ca8f7ea08ad01a7c630ffed6b98d897101050053658e90b2f1cd86b", func := "poacher/poacherlaw09.StealCells", spec := "stealCells", unfollowed := true, recurses := true, apart := false }
def StealCellsSaid : Prop := stealCellsRow.holds Try.pinned (OpenSpec.ofChange stealCellsSpec)

/-- ITS FALSE NEIGHBOUR: 'it returns false'. Refute it at one input. -/
def stealCellsWrong : ChangeSpec := { name := "stealCells", fn := fun _ => fun
  | [d1, d2, d3] => { results := [.lit (.bool false)], args := [d1, d2, d3] }
  | _ => none }
def StealCellsWrongFalsely : Prop := stealCellsRow.holds Try.pinned (OpenSpec.ofChange stealCellsWrong)

/-- 'poacherlaw09.StealPush': WHATEVER THE INPUT: true; the input reads as it did. -/
def stealPushSpec : ChangeSpec := { name := "stealPush", fn := fun _ => fun
  | [d1, d2, d3, d4] => { results := [.lit (.bool true)], args := [d1, d2, d3, d4] }
  | _ => none }
def stealPushRow : OpenClaim := { program := "ytomlgglcfbdimaa", sum := "e594d66b4ca8f7ea08ad01a7c630ffed6b98d897101050053658e90b2f1cd86b", func := "poacher/poacherlaw09.StealPush", spec := "stealPush", unfollowed := true, recurses := true, apart := false }
def StealPushSaid : Prop := stealPushRow.holds Try.pinned (OpenSpec.ofChange stealPushSpec)

/-- ITS FALSE NEIGHBOUR: 'it returns false'. Refute it at one input. -/
def stealPushWrong : ChangeSpec := { name := "stealPush", fn := fun _ => fun
  | [d1, d2, d3, d4] => { results := [.lit (.bool false)], args := [d1, d2, d3, d4] }
  | _ => none }
def StealPushWrongFalsely : Prop := stealPushRow.holds Try.pinned (OpenSpec.ofChange stealPushWrong)

/-- 'poacherlaw09.StealLate': WHATEVER THE INPUT: true; the input reads as it did. -/
def stealLateSpec : ChangeSpec := { name := "stealLate", fn := fun _ => fun
  | [d1, d2, d3, d4] => { results := [.lit (.bool true)], args := [d1, d2, d3, d4] }
  | _ => none }
def stealLateRow : OpenClaim := { program := "ytomlgglcfbdimaa", sum := "e594d66b4ca8f7ea08ad01a7c630ffed6b98d897101050053658e90b2f1cd86b", func := "poacher/poacherlaw09.StealLate", spec := "stealLate", unfollowed := true, recurses := true, apart := false }
def StealLateSaid : Prop := stealLateRow.holds Try.pinned (OpenSpec.ofChange stealLateSpec)

/-- ITS FALSE NEIGHBOUR: 'it returns false'. Refute it at one input. -/
def stealLateWrong : ChangeSpec := { name := "stealLate", fn := fun _ => fun
  | [d1, d2, d3, d4] => { results := [.lit (.bool false)], args := [d1, d2, d3, d4] }
  | _ => none }
def StealLateWrongFalsely : Prop := stealLateRow.holds Try.pinned (OpenSpec.ofChange stealLateWrong)

/- THE SECOND FORM. 'bulk': how many values and letters a reading holds, each counted each time it is reached (what is shared counts as often as it is met; a slice's spare places count too). A statement '..UptoSaid' is the law's where the arguments, and the package variables that the reading takes, are together of bulk at most 1048576: NARROWER than '..Said'. Prove '..Said' where nothing that the law and all that it calls make is longer than what came in: it says more and counts as full. Else prove '..UptoSaid'. A law counts once. -/
mutual
def uptoBulk {H : Type} : DataW H → Nat
  | .lit (.string bytes) => bytes.length + 1
  | .lit _ => 1
  | .nil => 1
  | .ptr d => uptoBulk d + 1
  | .slice elems spare => uptoBulkAll elems + uptoBulkAll spare + 1
  | .agg parts => uptoBulkAll parts + 1
  | .iface _ d => uptoBulk d + 1
  | .map entries => uptoBulkEntries entries + 1
  | .held _ => 1
def uptoBulkAll {H : Type} : List (DataW H) → Nat
  | [] => 0
  | d :: r => uptoBulk d + uptoBulkAll r
def uptoBulkEntries {H : Type} : List (Lit × DataW H) → Nat
  | [] => 0
  | x :: r => uptoBulkEntry x + uptoBulkEntries r
def uptoBulkEntry {H : Type} : Lit × DataW H → Nat
  | (.string bytes, d) => bytes.length + uptoBulk d + 1
  | (_, d) => uptoBulk d + 1
 end
def uptoSmall : (H : Type) → List (DataW H) → Bool := fun _ ds => decide (uptoBulkAll ds ≤ 1048576)
def OpenSpec.upto (s : _root_.Go.ChangeSpec) : _root_.Go.OpenSpec := { _root_.Go.OpenSpec.ofChange s with cond := some uptoSmall }

/-- 'poacherlaw09.StealTells', WHERE WHAT IT READS IS OF BULK AT MOST 1048576: true; the input reads as it did. -/
def stealTellsUptoRow : OpenClaim := { program := "ytomlgglcfbdimaa", sum := "e594d66b4ca8f7ea08ad01a7c630ffed6b98d897101050053658e90b2f1cd86b", func := "poacher/poacherlaw09.StealTells", spec := "stealTells", unfollowed := true, recurses := true, apart := false, narrowed := true }
def StealTellsUptoSaid : Prop := stealTellsUptoRow.holds Try.pinned (OpenSpec.upto stealTellsSpec)

/-- 'poacherlaw09.StealAlone', WHERE WHAT IT READS IS OF BULK AT MOST 1048576: true; the input reads as it did. -/
def stealAloneUptoRow : OpenClaim := { program := "ytomlgglcfbdimaa", sum := "e594d66b4ca8f7ea08ad01a7c630ffed6b98d897101050053658e90b2f1cd86b", func := "poacher/poacherlaw09.StealAlone", spec := "stealAlone", unfollowed := true, recurses := true, apart := false, narrowed := true }
def StealAloneUptoSaid : Prop := stealAloneUptoRow.holds Try.pinned (OpenSpec.upto stealAloneSpec)

/-- 'poacherlaw09.StealAbort', WHERE WHAT IT READS IS OF BULK AT MOST 1048576: true; the input reads as it did. -/
def stealAbortUptoRow : OpenClaim := { program := "ytomlgglcfbdimaa", sum := "e594d66b4ca8f7ea08ad01a7c630ffed6b98d897101050053658e90b2f1cd86b", func := "poacher/poacherlaw09.StealAbort", spec := "stealAbort", unfollowed := true, recurses := true, apart := false, narrowed := true }
def StealAbortUptoSaid : Prop := stealAbortUptoRow.holds Try.pinned (OpenSpec.upto stealAbortSpec)

/-- 'poacherlaw09.StealCells', WHERE WHAT IT READS IS OF BULK AT MOST 1048576: true; the input reads as it did. -/
def stealCellsUptoRow : OpenClaim := { program := "ytomlgglcfbdimaa", sum := "e594d66b4ca8f7ea08ad01a7c630ffed6b98d897101050053658e90b2f1cd86b", func := "poacher/poacherlaw09.StealCells", spec := "stealCells", unfollowed := true, recurses := true, apart := false, narrowed := true }
def StealCellsUptoSaid : Prop := stealCellsUptoRow.holds Try.pinned (OpenSpec.upto stealCellsSpec)

/-- 'poacherlaw09.StealPush', WHERE WHAT IT READS IS OF BULK AT MOST 1048576: true; the input reads as it did. -/
def stealPushUptoRow : OpenClaim := { program := "ytomlgglcfbdimaa", sum := "e594d66b4ca8f7ea08ad01a7c630ffed6b98d897101050053658e90b2f1cd86b", func := "poacher/poacherlaw09.StealPush", spec := "stealPush", unfollowed := true, recurses := true, apart := false, narrowed := true }
def StealPushUptoSaid : Prop := stealPushUptoRow.holds Try.pinned (OpenSpec.upto stealPushSpec)

/-- 'poacherlaw09.StealLate', WHERE WHAT IT READS IS OF BULK AT MOST 1048576: true; the input reads as it did. -/
def stealLateUptoRow : OpenClaim := { program := "ytomlgglcfbdimaa", sum := "e594d66b4ca8f7ea08ad01a7c630ffed6b98d897101050053658e90b2f1cd86b", func := "poacher/poacherlaw09.StealLate", spec := "stealLate", unfollowed := true, recurses := true, apart := false, narrowed := true }
def StealLateUptoSaid : Prop := stealLateUptoRow.holds Try.pinned (OpenSpec.upto stealLateSpec)

end Rows
end Go.Proofs.Ytomlgglcfbdimaa
