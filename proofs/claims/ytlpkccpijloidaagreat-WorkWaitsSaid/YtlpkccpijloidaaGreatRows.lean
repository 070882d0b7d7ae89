/-
  No cell of these rows narrows 'for every input' (looked for: loops, veiled, ifaces, maps, wideKeys, modest, calm, conditions, laid).
  DERIVED. THE GIVEN ROWS OF THIS SEAT. 5 by the template 'for every input the law returns true; each argument reads behind the call as it read before'; 0 by the template 'total and deterministic' (their statements: YtlpkccpijloidaaGreatTotals.lean).
  GIVEN WITH THE SEED: the statements are not yours to turn. If you find one false, say at which input.
  Laid BY PROGRAM, IN A SANDBOX (cutbox-rows.mjs): the forced cells as the released guide's own fill.sh prints them over the translation 0db0c84e443e76e3… (all of the seat's roots in one cut). By AI agents, Wed Nov 11 2026. No macro, syntax, notation, axiom, sorry.
-/
import Derived.Test.YtlpkccpijloidaaGreatChecked
import GoSem.Claim
import GoSem.ClaimJoined
import GoSem.ClaimMapViews
import Derived.JoinedTies
import Derived.KernelRfl
namespace Go.Proofs.YtlpkccpijloidaaGreat
/- THE CELL 'sum', in the pinned program and in every row, IS THE sha256 OF THE DUMP (.gsa) THAT YtlpkccpijloidaaGreatProg.lean LOADS. Nothing in Lean hashes anything: it is a label: what it is worth is what the hold of that sum in a sandbox is worth. -/
noncomputable def Tryz.pinned : Pinned := { name := "ytlpkccpijloidaagreat", sum := "0db0c84e443e76e3bc5f3a0742bf86971bc2c841b5923b3d5548916f31f67abe", checked := Tryz.checked }
namespace Rows
def none {H : Type} : Left H := { results := [], args := [] }

/-- 'poacherlaw18.WorkCell': WHATEVER THE INPUT: true; the input reads as it did. -/
def workCellSpec : ChangeSpec := { name := "workCell", fn := fun _ => fun
  | [d1, d2, d3, d4, d5, d6] => { results := [.lit (.bool true)], args := [d1, d2, d3, d4, d5, d6] }
  | _ => none }
def workCellRow : OpenClaim := { program := "ytlpkccpijloidaagreat", sum := "0db0c84e443e76e3bc5f3a0742bf86971bc2c841b5923b3d5548916f31f67abe", func := "poacher/poacherlaw18.WorkCell", spec := "workCell", unfollowed := true, recurses := true, apart := false }
def WorkCellSaid : Prop := workCellRow.holds Tryz.pinned (OpenSpec.ofChange workCellSpec)

/-- ITS FALSE NEIGHBOUR: 'it returns false'. Refute it at one input. -/
def workCellWrong : ChangeSpec := { name := "workCell", fn := fun _ => fun
  | [d1, d2, d3, d4, d5, d6] => { results := [.lit (.bool false)], args := [d1, d2, d3, d4, d5, d6] }
  | _ => none }
def WorkCellWrongFalsely : Prop := workCellRow.holds Tryz.pinned (OpenSpec.ofChange workCellWrong)

/-- 'poacherlaw18.WorkCounts': WHATEVER THE INPUT: true; the input reads as it did. -/
def workCountsSpec : ChangeSpec := { name := "workCounts", fn := fun _ => fun
  | [d1, d2, d3, d4, d5, d6] => { results := [.lit (.bool true)], args := [d1, d2, d3, d4, d5, d6] }
  | _ => none }
def workCountsRow : OpenClaim := { program := "ytlpkccpijloidaagreat", sum := "0db0c84e443e76e3bc5f3a0742bf86971bc2c841b5923b3d5548916f31f67abe", func := "poacher/poacherlaw18.WorkCounts", spec := "workCounts", unfollowed := true, recurses := true, apart := false }
def WorkCountsSaid : Prop := workCountsRow.holds Tryz.pinned (OpenSpec.ofChange workCountsSpec)

/-- ITS FALSE NEIGHBOUR: 'it returns false'. Refute it at one input. -/
def workCountsWrong : ChangeSpec := { name := "workCounts", fn := fun _ => fun
  | [d1, d2, d3, d4, d5, d6] => { results := [.lit (.bool false)], args := [d1, d2, d3, d4, d5, d6] }
  | _ => none }
def WorkCountsWrongFalsely : Prop := workCountsRow.holds Tryz.pinned (OpenSpec.ofChange workCountsWrong)

/-- 'poacherlaw18.WorkDraw': WHATEVER THE INPUT: true; the input reads as it did. -/
def workDrawSpec : ChangeSpec := { name := "workDraw", fn := fun _ => fun
  | [d1, d2, d3, d4, d5, d6, d7] => { results := [.lit (.bool true)], args := [d1, d2, d3, d4, d5, d6, d7] }
  | _ => none }
def workDrawRow : OpenClaim := { program := "ytlpkccpijloidaagreat", sum := "0db0c84e443e76e3bc5f3a0742bf86971bc2c841b5923b3d5548916f31f67abe", func := "poacher/poacherlaw18.WorkDraw", spec := "workDraw", unfollowed := true, recurses := true, apart := false }
def WorkDrawSaid : Prop := workDrawRow.holds Tryz.pinned (OpenSpec.ofChange workDrawSpec)

/-- ITS FALSE NEIGHBOUR: 'it returns false'. Refute it at one input. -/
def workDrawWrong : ChangeSpec := { name := "workDraw", fn := fun _ => fun
  | [d1, d2, d3, d4, d5, d6, d7] => { results := [.lit (.bool false)], args := [d1, d2, d3, d4, d5, d6, d7] }
  | _ => none }
def WorkDrawWrongFalsely : Prop := workDrawRow.holds Tryz.pinned (OpenSpec.ofChange workDrawWrong)

/-- 'poacherlaw18.WorkSpawns': WHATEVER THE INPUT: true; the input reads as it did. -/
def workSpawnsSpec : ChangeSpec := { name := "workSpawns", fn := fun _ => fun
  | [d1, d2, d3, d4, d5, d6] => { results := [.lit (.bool true)], args := [d1, d2, d3, d4, d5, d6] }
  | _ => none }
def workSpawnsRow : OpenClaim := { program := "ytlpkccpijloidaagreat", sum := "0db0c84e443e76e3bc5f3a0742bf86971bc2c841b5923b3d5548916f31f67abe", func := "poacher/poacherlaw18.WorkSpawns", spec := "workSpawns", unfollowed := true, recurses := true, apart := false }
def WorkSpawnsSaid : Prop := workSpawnsRow.holds Tryz.pinned (OpenSpec.ofChange workSpawnsSpec)

/-- ITS FALSE NEIGHBOUR: 'it returns false'. Refute it at one input. -/
def workSpawnsWrong : ChangeSpec := { name := "workSpawns", fn := fun _ => fun
  | [d1, d2, d3, d4, d5, d6] => { results := [.lit (.bool false)], args := [d1, d2, d3, d4, d5, d6] }
  | _ => none }
def WorkSpawnsWrongFalsely : Prop := workSpawnsRow.holds Tryz.pinned (OpenSpec.ofChange workSpawnsWrong)

/-- 'poacherlaw18.WorkWaits': WHATEVER THE INPUT: true; the input reads as it did. -/
def workWaitsSpec : ChangeSpec := { name := "workWaits", fn := fun _ => fun
  | [d1, d2, d3] => { results := [.lit (.bool true)], args := [d1, d2, d3] }
  | _ => none }
def workWaitsRow : OpenClaim := { program := "ytlpkccpijloidaagreat", sum := "0db0c84e443e76e3bc5f3a0742bf86971bc2c841b5923b3d5548916f31f67abe", func := "poacher/poacherlaw18.WorkWaits", spec := "workWaits", unfollowed := true, recurses := true, apart := false }
def WorkWaitsSaid : Prop := workWaitsRow.holds Tryz.pinned (OpenSpec.ofChange workWaitsSpec)

/-- ITS FALSE NEIGHBOUR: 'it returns false'. Refute it at one input. -/
def workWaitsWrong : ChangeSpec := { name := "workWaits", fn := fun _ => fun
  | [d1, d2, d3] => { results := [.lit (.bool false)], args := [d1, d2, d3] }
  | _ => none }
def WorkWaitsWrongFalsely : Prop := workWaitsRow.holds Tryz.pinned (OpenSpec.ofChange workWaitsWrong)

/- THE SECOND FORM. 'bulk': how many values and letters a reading holds, each counted each time it is reached (what is shared counts as often as it is met; a slice's spare places count too). A statement '..UptoSaid' is the law's where the arguments, and the package variables that the reading takes, are together of bulk at most 1048576: NARROWER than '..Said'. Prove '..Said' where nothing that the law and all that it calls make is longer than what came in: it says more and counts as full. Else prove '..UptoSaid'. A law counts once. -/
mutual
def uptoBulk {H : Type} : DataW H → Nat
  | .lit (.string bytes) => bytes.length + 1
  | .lit _ => 1
  | .nil => 1
  | .ptr d => uptoBulk d + 1
  | .slice elems spare => uptoBulkAll elems + uptoBulkAll spare + 1
  | .agg parts => uptoBulkAll parts + 1
  | .iface _ d => uptoBulk d + 1
  | .map entries => uptoBulkEntries entries + 1
  | .held _ => 1
def uptoBulkAll {H : Type} : List (DataW H) → Nat
  | [] => 0
  | d :: r => uptoBulk d + uptoBulkAll r
def uptoBulkEntries {H : Type} : List (Lit × DataW H) → Nat
  | [] => 0
  | x :: r => uptoBulkEntry x + uptoBulkEntries r
def uptoBulkEntry {H : Type} : Lit × DataW H → Nat
  | (.string bytes, d) => bytes.length + uptoBulk d + 1
  | (_, d) => uptoBulk d + 1
 end
def uptoSmall : (H : Type) → List (DataW H) → Bool := fun _ ds => decide (uptoBulkAll ds ≤ 1048576)
def OpenSpec.upto (s : _root_.Go.ChangeSpec) : _root_.Go.OpenSpec := { _root_.Go.OpenSpec.ofChange s with cond := some uptoSmall }

/-- 'poacherlaw18.WorkCell', WHERE WHAT IT READS IS OF BULK AT MOST 1048576: true; the input reads as it did. -/
def workCellUptoRow : OpenClaim := { program := "ytlpkccpijloidaagreat", sum := "0db0c84e443e76e3bc5f3a0742bf86971bc2c841b5923b3d5548916f31f67abe", func := "poacher/poacherlaw18.WorkCell", spec := "workCell", unfollowed := true, recurses := true, apart := false, narrowed := true }
def WorkCellUptoSaid : Prop := workCellUptoRow.holds Tryz.pinned (OpenSpec.upto workCellSpec)

/-- 'poacherlaw18.WorkCounts', WHERE WHAT IT READS IS OF BULK AT MOST 1048576: true; the input reads as it did. -/
def workCountsUptoRow : OpenClaim := { program := "ytlpkccpijloidaagreat", sum := "0db0c84e443e76e3bc5f3a0742bf86971bc2c841b5923b3d5548916f31f67abe", func := "poacher/poacherlaw18.WorkCounts", spec := "workCounts", unfollowed := true, recurses := true, apart := false, narrowed := true }
def WorkCountsUptoSaid : Prop := workCountsUptoRow.holds Tryz.pinned (OpenSpec.upto workCountsSpec)

/-- 'poacherlaw18.WorkDraw', WHERE WHAT IT READS IS OF BULK AT MOST 1048576: true; the input reads as it did. -/
def workDrawUptoRow : OpenClaim := { program := "ytlpkccpijloidaagreat", sum := "0db0c84e443e76e3bc5f3a0742bf86971bc2c841b5923b3d5548916f31f67abe", func := "poacher/poacherlaw18.WorkDraw", spec := "workDraw", unfollowed := true, recurses := true, apart := false, narrowed := true }
def WorkDrawUptoSaid : Prop := workDrawUptoRow.holds Tryz.pinned (OpenSpec.upto workDrawSpec)

/-- 'poacherlaw18.WorkSpawns', WHERE WHAT IT READS IS OF BULK AT MOST 1048576: true; the input reads as it did. -/
def workSpawnsUptoRow : OpenClaim := { program := "ytlpkccpijloidaagreat", sum := "0db0c84e443e76e3bc5f3a0742bf86971bc2c841b5923b3d5548916f31f67abe", func := "poacher/poacherlaw18.WorkSpawns", spec := "workSpawns", unfollowed := true, recurses := true, apart := false, narrowed := true }
def WorkSpawnsUptoSaid : Prop := workSpawnsUptoRow.holds Tryz.pinned (OpenSpec.upto workSpawnsSpec)

/-- 'poacherlaw18.WorkWaits', WHERE WHAT IT READS IS OF BULK AT MOST 1048576: true; the input reads as it did. -/
def workWaitsUptoRow : OpenClaim := { program := "ytlpkccpijloidaagreat", sum := "0db0c84e443e76e3bc5f3a0742bf86971bc2c841b5923b3d5548916f31f67abe", func := "poacher/poacherlaw18.WorkWaits", spec := "workWaits", unfollowed := true, recurses := true, apart := false, narrowed := true }
def WorkWaitsUptoSaid : Prop := workWaitsUptoRow.holds Tryz.pinned (OpenSpec.upto workWaitsSpec)

end Rows
end Go.Proofs.YtlpkccpijloidaaGreat
