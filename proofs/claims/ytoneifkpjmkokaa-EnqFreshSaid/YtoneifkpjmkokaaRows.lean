/-
  No cell of these rows narrows 'for every input' (looked for: loops, veiled, ifaces, maps, wideKeys, modest, calm, conditions, laid).
  DERIVED. THE GIVEN ROWS OF THIS SEAT. 6 by the template 'for every input the law returns true; each argument reads behind the call as it read before'; 0 by the template 'total and deterministic' (their statements: YtoneifkpjmkokaaTotals.lean).
  GIVEN WITH THE SEED: the statements are not yours to turn. If you find one false, say at which input.
  Laid BY PROGRAM, IN A SANDBOX (cutbox-rows.mjs): the forced cells as the released guide's own fill.sh prints them over the translation 2d411ac29fd3b829… (all of the seat's roots in one cut). By AI agents, Wed Nov 11 2026. No macro, syntax, notation, axiom, sorry.
-/
import Derived.Test.YtoneifkpjmkokaaChecked
import GoSem.Claim
import GoSem.ClaimJoined
import GoSem.ClaimMapViews
import Derived.JoinedTies
import Derived.KernelRfl
namespace Go.Proofs.Ytoneifkpjmkokaa
/- THE CELL 'sum', in the pinned program and in every row, IS THE sha256 OF THE DUMP (.gsa) THAT YtoneifkpjmkokaaProg.lean LOADS. Nothing in Lean hashes anything: it is a label: what it is worth is what the hold of that sum in a sandbox is worth. -/
noncomputable def Try.pinned : Pinned := { name := "ytoneifkpjmkokaa", sum := "2d411ac29fd3b829e919bf562f55c0a85b003b27a9d7eea13c9af5f391cb4b09", checked := Try.checked }
namespace Rows
def none {H : Type} : Left H := { results := [], args := [] }

/-- 'poacherlaw11.EnqTells': WHATEVER THE INPUT: true; the input reads as it did. -/
def enqTellsSpec : ChangeSpec := { name := "enqTells", fn := fun _ => fun
  | [d1, d2, d3, d4] => { results := [.lit (.bool true)], args := [d1, d2, d3, d4] }
  | _ => none }
def enqTellsRow : OpenClaim := { program := "ytoneifkpjmkokaa", sum := "2d411ac29fd3b829e919bf562f55c0a85b003b27a9d7eea13c9af5f391cb4b09", func := "poacher/poacherlaw11.EnqTells", spec := "enqTells", unfollowed := true, recurses := true, apart := false }
def EnqTellsSaid : Prop := enqTellsRow.holds Try.pinned (OpenSpec.ofChange enqTellsSpec)

/-- ITS FALSE NEIGHBOUR: 'it returns false'. Refute it at one input. -/
def enqTellsWrong : ChangeSpec := { name := "enqTells", fn := fun _ => fun
  | [d1, d2, d3, d4] => { results := [.lit (.bool false)], args := [d1, d2, d3, d4] }
  | _ => none }
def EnqTellsWrongFalsely : Prop := enqTellsRow.holds Try.pinned (OpenSpec.ofChange enqTellsWrong)

/-- 'poacherlaw11.EnqCells': WHATEVER THE INPUT: true; the input reads as it did. -/
def enqCellsSpec : ChangeSpec := { name := "enqCells", fn := fun _ => fun
  | [d1, d2, d3] => { results := [.lit (.bool true)], args := [d1, d2, d3] }
  | _ => none }
def enqCellsRow : OpenClaim := { program := "ytoneifkpjmkokaa", sum := "2d411ac29fd3b829e919bf562f55c0a85b003b27a9d7eea13c9af5f391cb4b09", func := "poacher/poacherlaw11.EnqCells", spec := "enqCells", unfollowed := true, recurses := true, apart := false }
def EnqCellsSaid : Prop := enqCellsRow.holds Try.pinned (OpenSpec.ofChange enqCellsSpec)

/-- ITS FALSE NEIGHBOUR: 'it returns false'. Refute it at one input. -/
def enqCellsWrong : ChangeSpec := { name := "enqCells", fn := fun _ => fun
  | [d1, d2, d3] => { results := [.lit (.bool false)], args := [d1, d2, d3] }
  | _ => none }
def EnqCellsWrongFalsely : Prop := enqCellsRow.holds Try.pinned (OpenSpec.ofChange enqCellsWrong)

/-- 'poacherlaw11.EnqFresh': WHATEVER THE INPUT: true; the input reads as it did. -/
def enqFreshSpec : ChangeSpec := { name := "enqFresh", fn := fun _ => fun
  | [d1, d2] => { results := [.lit (.bool true)], args := [d1, d2] }
  | _ => none }
def enqFreshRow : OpenClaim := { program := "ytoneifkpjmkokaa", sum := "2d411ac29fd3b829e919bf562f55c0a85b003b27a9d7eea13c9af5f391cb4b09", func := "poacher/poacherlaw11.EnqFresh", spec := "enqFresh", unfollowed := true, recurses := true, apart := false }
def EnqFreshSaid : Prop := enqFreshRow.holds Try.pinned (OpenSpec.ofChange enqFreshSpec)

/-- ITS FALSE NEIGHBOUR: 'it returns false'. Refute it at one input. -/
def enqFreshWrong : ChangeSpec := { name := "enqFresh", fn := fun _ => fun
  | [d1, d2] => { results := [.lit (.bool false)], args := [d1, d2] }
  | _ => none }
def EnqFreshWrongFalsely : Prop := enqFreshRow.holds Try.pinned (OpenSpec.ofChange enqFreshWrong)

/-- 'poacherlaw11.EnqOther': WHATEVER THE INPUT: true; the input reads as it did. -/
def enqOtherSpec : ChangeSpec := { name := "enqOther", fn := fun _ => fun
  | [d1, d2, d3, d4] => { results := [.lit (.bool true)], args := [d1, d2, d3, d4] }
  | _ => none }
def enqOtherRow : OpenClaim := { program := "ytoneifkpjmkokaa", sum := "2d411ac29fd3b829e919bf562f55c0a85b003b27a9d7eea13c9af5f391cb4b09", func := "poacher/poacherlaw11.EnqOther", spec := "enqOther", unfollowed := true, recurses := true, apart := false }
def EnqOtherSaid : Prop := enqOtherRow.holds Try.pinned (OpenSpec.ofChange enqOtherSpec)

/-- ITS FALSE NEIGHBOUR: 'it returns false'. Refute it at one input. -/
def enqOtherWrong : ChangeSpec := { name := "enqOther", fn := fun _ => fun
  | [d1, d2, d3, d4] => { results := [.lit (.bool false)], args := [d1, d2, d3, d4] }
  | _ => none }
def EnqOtherWrongFalsely : Prop := enqOtherRow.holds Try.pinned (OpenSpec.ofChange enqOtherWrong)

/-- 'poacherlaw11.EnqRetry': WHATEVER THE INPUT: true; the input reads as it did. -/
def enqRetrySpec : ChangeSpec := { name := "enqRetry", fn := fun _ => fun
  | [d1, d2, d3, d4] => { results := [.lit (.bool true)], args := [d1, d2, d3, d4] }
  | _ => none }
def enqRetryRow : OpenClaim := { program := "ytoneifkpjmkokaa", sum := "2d411ac29fd3b829e919bf562f55c0a85b003b27a9d7eea13c9af5f391cb4b09", func := "poacher/poacherlaw11.EnqRetry", spec := "enqRetry", unfollowed := true, recurses := true, apart := false }
def EnqRetrySaid : Prop := enqRetryRow.holds Try.pinned (OpenSpec.ofChange enqRetrySpec)

/-- ITS FALSE NEIGHBOUR: 'it returns false'. Refute it at one input. -/
def enqRetryWrong : ChangeSpec := { name := "enqRetry", fn := fun _ => fun
  | [d1, d2, d3, d4] => { results := [.lit (.bool false)], args := [d1, d2, d3, d4] }
  | _ => none }
def EnqRetryWrongFalsely : Prop := enqRetryRow.holds Try.pinned (OpenSpec.ofChange enqRetryWrong)

/-- 'poacherlaw11.EnqHeld': WHATEVER THE INPUT: true; the input reads as it did. -/
def enqHeldSpec : ChangeSpec := { name := "enqHeld", fn := fun _ => fun
  | [d1, d2, d3] => { results := [.lit (.bool true)], args := [d1, d2, d3] }
  | _ => none }
def enqHeldRow : OpenClaim := { program := "ytoneifkpjmkokaa", sum := "2d411ac29fd3b829e919bf562f55c0a85b003b27a9d7eea13c9af5f391cb4b09", func := "poacher/poacherlaw11.EnqHeld", spec := "enqHeld", unfollowed := true, recurses := true, apart := false }
def EnqHeldSaid : Prop := enqHeldRow.holds Try.pinned (OpenSpec.ofChange enqHeldSpec)

/-- ITS FALSE NEIGHBOUR: 'it returns false'. Refute it at one input. -/
def enqHeldWrong : ChangeSpec := { name := "enqHeld", fn := fun _ => fun
  | [d1, d2, d3] => { results := [.lit (.bool false)], args := [d1, d2, d3] }
  | _ => none }
def EnqHeldWrongFalsely : Prop := enqHeldRow.holds Try.pinned (OpenSpec.ofChange enqHeldWrong)

/- THE SECOND FORM. 'bulk': how many values and letters a reading holds, each counted each time it is reached (what is shared counts as often as it is met; a slice's spare places count too). A statement '..UptoSaid' is the law's where the arguments, and the package variables that the reading takes, are together of bulk at most 1048576: NARROWER than '..Said'. Prove '..Said' where nothing that the law and all that it calls make is longer than what came in: it says more and counts as full. Else prove '..UptoSaid'. A law counts once. -/
mutual
def uptoBulk {H : Type} : DataW H → Nat
  | .lit (.string bytes) => bytes.length + 1
  | .lit _ => 1
  | .nil => 1
  | .ptr d => uptoBulk d + 1
  | .slice elems spare => uptoBulkAll elems + uptoBulkAll spare + 1
  | .agg parts => uptoBulkAll parts + 1
  | .iface _ d => uptoBulk d + 1
  | .map entries => uptoBulkEntries entries + 1
  | .held _ => 1
def uptoBulkAll {H : Type} : List (DataW H) → Nat
  | [] => 0
  | d :: r => uptoBulk d + uptoBulkAll r
def uptoBulkEntries {H : Type} : List (Lit × DataW H) → Nat
  | [] => 0
  | x :: r => uptoBulkEntry x + uptoBulkEntries r
def uptoBulkEntry {H : Type} : Lit × DataW H → Nat
  | (.string bytes, d) => bytes.length + uptoBulk d + 1
  | (_, d) => uptoBulk d + 1
 end
def uptoSmall : (H : Type) → List (DataW H) → Bool := fun _ ds => decide (uptoBulkAll ds ≤ 1048576)
def OpenSpec.upto (s : _root_.Go.ChangeSpec) : _root_.Go.OpenSpec := { _root_.Go.OpenSpec.ofChange s with cond := some uptoSmall }

/-- 'poacherlaw11.EnqTells', WHERE WHAT IT READS IS OF BULK AT MOST 1048576: true; the input reads as it did. -/
def enqTellsUptoRow : OpenClaim := { program := "ytoneifkpjmkokaa", sum := "2d411ac29fd3b829e919bf562f55c0a85b003b27a9d7eea13c9af5f391cb4b09", func := "poacher/poacherlaw11.EnqTells", spec := "enqTells", unfollowed := true, recurses := true, apart := false, narrowed := true }
def EnqTellsUptoSaid : Prop := enqTellsUptoRow.holds Try.pinned (OpenSpec.upto enqTellsSpec)

/-- 'poacherlaw11.EnqCells', WHERE WHAT IT READS IS OF BULK AT MOST 1048576: true; the input reads as it did. -/
def enqCellsUptoRow : OpenClaim := { program := "ytoneifkpjmkokaa", sum := "2d411ac29fd3b829e919bf562f55c0a85b003b27a9d7eea13c9af5f391cb4b09", func := "poacher/poacherlaw11.EnqCells", spec := "enqCells", unfollowed := true, recurses := true, apart := false, narrowed := true }
def EnqCellsUptoSaid : Prop := enqCellsUptoRow.holds Try.pinned (OpenSpec.upto enqCellsSpec)

/-- 'poacherlaw11.EnqFresh', WHERE WHAT IT READS IS OF BULK AT MOST 1048576: true; the input reads as it did. -/
def enqFreshUptoRow : OpenClaim := { program := "ytoneifkpjmkokaa", sum := "2d411ac29fd3b829e919bf562f55c0a85b003b27a9d7eea13c9af5f391cb4b09", func := "poacher/poacherlaw11.EnqFresh", spec := "enqFresh", unfollowed := true, recurses := true, apart := false, narrowed := true }
def EnqFreshUptoSaid : Prop := enqFreshUptoRow.holds Try.pinned (OpenSpec.upto enqFreshSpec)

/-- 'poacherlaw11.EnqOther', WHERE WHAT IT READS IS OF BULK AT MOST 1048576: true; the input reads as it did. -/
def enqOtherUptoRow : OpenClaim := { program := "ytoneifkpjmkokaa", sum := "2d411ac29fd3b829e919bf562f55c0a85b003b27a9d7eea13c9af5f391cb4b09", func := "poacher/poacherlaw11.EnqOther", spec := "enqOther", unfollowed := true, recurses := true, apart := false, narrowed := true }
def EnqOtherUptoSaid : Prop := enqOtherUptoRow.holds Try.pinned (OpenSpec.upto enqOtherSpec)

/-- 'poacherlaw11.EnqRetry', WHERE WHAT IT READS IS OF BULK AT MOST 1048576: true; the input reads as it did. -/
def enqRetryUptoRow : OpenClaim := { program := "ytoneifkpjmkokaa", sum := "2d411ac29fd3b829e919bf562f55c0a85b003b27a9d7eea13c9af5f391cb4b09", func := "poacher/poacherlaw11.EnqRetry", spec := "enqRetry", unfollowed := true, recurses := true, apart := false, narrowed := true }
def EnqRetryUptoSaid : Prop := enqRetryUptoRow.holds Try.pinned (OpenSpec.upto enqRetrySpec)

/-- 'poacherlaw11.EnqHeld', WHERE WHAT IT READS IS OF BULK AT MOST 1048576: true; the input reads as it did. -/
def enqHeldUptoRow : OpenClaim := { program := "ytoneifkpjmkokaa", sum := "2d411ac29fd3b829e919bf562f55c0a85b003b27a9d7eea13c9af5f391cb4b09", func := "poacher/poacherlaw11.EnqHeld", spec := "enqHeld", unfollowed := true, recurses := true, apart := false, narrowed := true }
def EnqHeldUptoSaid : Prop := enqHeldUptoRow.holds Try.pinned (OpenSpec.upto enqHeldSpec)

end Rows
end Go.Proofs.Ytoneifkpjmkokaa
