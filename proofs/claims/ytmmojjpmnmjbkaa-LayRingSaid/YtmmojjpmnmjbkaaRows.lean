/-
  No cell of these rows narrows 'for every input' (looked for: loops, veiled, ifaces, maps, wideKeys, modest, calm, conditions, laid).
  DERIVED. THE GIVEN ROWS OF THIS SEAT. 6 by the template 'for every input the law returns true; each argument reads behind the call as it read before'; 0 by the template 'total and deterministic' (their statements: YtmmojjpmnmjbkaaTotals.lean).
  GIVEN WITH THE SEED: the statements are not yours to turn. If you find one false, say at which input.
  Laid BY PROGRAM, IN A SANDBOX (cutbox-rows.mjs): the forced cells as the released guide's own fill.sh prints them over the translation a1a61ba741ae5289… (all of the seat's roots in one cut). By AI agents, Wed Nov 11 2026. No macro, syntax, notation, axiom, sorry.
-/
import Derived.Test.YtmmojjpmnmjbkaaChecked
import GoSem.Claim
import GoSem.ClaimJoined
import GoSem.ClaimMapViews
import Derived.JoinedTies
import Derived.KernelRfl
namespace Go.Proofs.Ytmmojjpmnmjbkaa
/- THE CELL 'sum', in the pinned program and in every row, IS THE sha256 OF THE DUMP (.gsa) THAT YtmmojjpmnmjbkaaProg.lean LOADS. Nothing in Lean hashes anything: it is a label: what it is worth is what the hold of that sum in a sandbox is worth. -/
noncomputable def Try.pinned : Pinned := { name := "ytmmojjpmnmjbkaa", sum := "a1a61ba741ae52892d0d9a7cfbd7dab4b9649d3cc03e659e63475f743a385815", checked := Try.checked }
namespace Rows
def none {H : Type} : Left H := { results := [], args := [] }

/-- 'poacherlaw03.LayTells': WHATEVER THE INPUT: true; the input reads as it did. -/
def layTellsSpec : ChangeSpec := { name := "layTells", fn := fun _ => fun
  | [d1, d2, d3] => { results := [.lit (.bool true)], args := [d1, d2, d3] }
  | _ => none }
def layTellsRow : OpenClaim := { program := "ytmmojjpmnmjbkaa", sum := "a1a61ba741ae52892d0d9a7cfbd7dab4b9649d3cc03e659e63475f743a385815", func := "poacher/poacherlaw03.LayTells", spec := "layTells", unfollowed := true, recurses := true, apart := false }
def LayTellsSaid : Prop := layTellsRow.holds Try.pinned (OpenSpec.ofChange layTellsSpec)

/-- ITS FALSE NEIGHBOUR: 'it returns false'. Refute it at one input. -/
def layTellsWrong : ChangeSpec := { name := "layTells", fn := fun _ => fun
  | [d1, d2, d3] => { results := [.lit (.bool false)], args := [d1, d2, d3] }
  | _ => none }
def LayTellsWrongFalsely : Prop := layTellsRow.holds Try.pinned (OpenSpec.ofChange layTellsWrong)

/-- 'poacherlaw03.LayApart': WHATEVER THE INPUT: true; the input reads as it did. -/
def layApartSpec : ChangeSpec := { name := "layApart", fn := fun _ => fun
  | [d1, d2, d3, d4, d5, d6, d7] => { results := [.lit (.bool true)], args := [d1, d2, d3, d4, d5, d6, d7] }
  | _ => none }
def layApartRow : OpenClaim := { program := "ytmmojjpmnmjbkaa", sum := "a1a61ba741ae52892d0d9a7cfbd7dab4b9649d3cc03e659e63475f743a385815", func := "poacher/poacherlaw03.LayApart", spec := "layApart", unfollowed := true, recurses := true, apart := false }
def LayApartSaid : Prop := layApartRow.holds Try.pinned (OpenSpec.ofChange layApartSpec)

/-- ITS FALSE NEIGHBOUR: 'it returns false'. Refute it at one input. -/
def layApartWrong : ChangeSpec := { name := "layApart", fn := fun _ => fun
  | [d1, d2, d3, d4, d5, d6, d7] => { results := [.lit (.bool false)], args := [d1, d2, d3, d4, d5, d6, d7] }
  | _ => none }
def LayApartWrongFalsely : Prop := layApartRow.holds Try.pinned (OpenSpec.ofChange layApartWrong)

/-- 'poacherlaw03.LayAll': WHATEVER THE INPUT: true; the input reads as it did. -/
def layAllSpec : ChangeSpec := { name := "layAll", fn := fun _ => fun
  | [d1, d2] => { results := [.lit (.bool true)], args := [d1, d2] }
  | _ => none }
def layAllRow : OpenClaim := { program := "ytmmojjpmnmjbkaa", sum := "a1a61ba741ae52892d0d9a7cfbd7dab4b9649d3cc03e659e63475f743a385815", func := "poacher/poacherlaw03.LayAll", spec := "layAll", unfollowed := true, recurses := true, apart := false }
def LayAllSaid : Prop := layAllRow.holds Try.pinned (OpenSpec.ofChange layAllSpec)

/-- ITS FALSE NEIGHBOUR: 'it returns false'. Refute it at one input. -/
def layAllWrong : ChangeSpec := { name := "layAll", fn := fun _ => fun
  | [d1, d2] => { results := [.lit (.bool false)], args := [d1, d2] }
  | _ => none }
def LayAllWrongFalsely : Prop := layAllRow.holds Try.pinned (OpenSpec.ofChange layAllWrong)

/-- 'poacherlaw03.LayRing': WHATEVER THE INPUT: true; the input reads as it did. -/
def layRingSpec : ChangeSpec := { name := "layRing", fn := fun _ => fun
  | [d1, d2, d3, d4] => { results := [.lit (.bool true)], args := [d1, d2, d3, d4] }
  | _ => none }
def layRingRow : OpenClaim := { program := "ytmmojjpmnmjbkaa", sum := "a1a61ba741ae52892d0d9a7cfbd7dab4b9649d3cc03e659e63475f743a385815", func := "poacher/poacherlaw03.LayRing", spec := "layRing", unfollowed := true, recurses := true, apart := false }
def LayRingSaid : Prop := layRingRow.holds Try.pinned (OpenSpec.ofChange layRingSpec)

/-- ITS FALSE NEIGHBOUR: 'it returns false'. Refute it at one input. -/
def layRingWrong : ChangeSpec := { name := "layRing", fn := fun _ => fun
  | [d1, d2, d3, d4] => { results := [.lit (.bool false)], args := [d1, d2, d3, d4] }
  | _ => none }
def LayRingWrongFalsely : Prop := layRingRow.holds Try.pinned (OpenSpec.ofChange layRingWrong)

/-- 'poacherlaw03.LayMay': WHATEVER THE INPUT: true; the input reads as it did. -/
def layMaySpec : ChangeSpec := { name := "layMay", fn := fun _ => fun
  | [d] => { results := [.lit (.bool true)], args := [d] }
  | _ => none }
def layMayRow : OpenClaim := { program := "ytmmojjpmnmjbkaa", sum := "a1a61ba741ae52892d0d9a7cfbd7dab4b9649d3cc03e659e63475f743a385815", func := "poacher/poacherlaw03.LayMay", spec := "layMay", unfollowed := true, recurses := true, apart := false }
def LayMaySaid : Prop := layMayRow.holds Try.pinned (OpenSpec.ofChange layMaySpec)

/-- ITS FALSE NEIGHBOUR: 'it returns false'. Refute it at one input. -/
def layMayWrong : ChangeSpec := { name := "layMay", fn := fun _ => fun
  | [d] => { results := [.lit (.bool false)], args := [d] }
  | _ => none }
def LayMayWrongFalsely : Prop := layMayRow.holds Try.pinned (OpenSpec.ofChange layMayWrong)

/-- 'poacherlaw03.LaySize': WHATEVER THE INPUT: true; the input reads as it did. -/
def laySizeSpec : ChangeSpec := { name := "laySize", fn := fun _ => fun
  | [d1, d2, d3] => { results := [.lit (.bool true)], args := [d1, d2, d3] }
  | _ => none }
def laySizeRow : OpenClaim := { program := "ytmmojjpmnmjbkaa", sum := "a1a61ba741ae52892d0d9a7cfbd7dab4b9649d3cc03e659e63475f743a385815", func := "poacher/poacherlaw03.LaySize", spec := "laySize", unfollowed := true, recurses := true, apart := false }
def LaySizeSaid : Prop := laySizeRow.holds Try.pinned (OpenSpec.ofChange laySizeSpec)

/-- ITS FALSE NEIGHBOUR: 'it returns false'. Refute it at one input. -/
def laySizeWrong : ChangeSpec := { name := "laySize", fn := fun _ => fun
  | [d1, d2, d3] => { results := [.lit (.bool false)], args := [d1, d2, d3] }
  | _ => none }
def LaySizeWrongFalsely : Prop := laySizeRow.holds Try.pinned (OpenSpec.ofChange laySizeWrong)

/- THE SECOND FORM. 'bulk': how many values and letters a reading holds, each counted each time it is reached (what is shared counts as often as it is met; a slice's spare places count too). A statement '..UptoSaid' is the law's where the arguments, and the package variables that the reading takes, are together of bulk at most 1048576: NARROWER than '..Said'. Prove '..Said' where nothing that the law and all that it calls make is longer than what came in: it says more and counts as full. Else prove '..UptoSaid'. A law counts once. -/
mutual
def uptoBulk {H : Type} : DataW H → Nat
  | .lit (.string bytes) => bytes.length + 1
  | .lit _ => 1
  | .nil => 1
  | .ptr d => uptoBulk d + 1
  | .slice elems spare => uptoBulkAll elems + uptoBulkAll spare + 1
  | .agg parts => uptoBulkAll parts + 1
  | .iface _ d => uptoBulk d + 1
  | .map entries => uptoBulkEntries entries + 1
  | .held _ => 1
def uptoBulkAll {H : Type} : List (DataW H) → Nat
  | [] => 0
  | d :: r => uptoBulk d + uptoBulkAll r
def uptoBulkEntries {H : Type} : List (Lit × DataW H) → Nat
  | [] => 0
  | x :: r => uptoBulkEntry x + uptoBulkEntries r
def uptoBulkEntry {H : Type} : Lit × DataW H → Nat
  | (.string bytes, d) => bytes.length + uptoBulk d + 1
  | (_, d) => uptoBulk d + 1
 end
def uptoSmall : (H : Type) → List (DataW H) → Bool := fun _ ds => decide (uptoBulkAll ds ≤ 1048576)
def OpenSpec.upto (s : _root_.Go.ChangeSpec) : _root_.Go.OpenSpec := { _root_.Go.OpenSpec.ofChange s with cond := some uptoSmall }

/-- 'poacherlaw03.LayTells', WHERE WHAT IT READS IS OF BULK AT MOST 1048576: true; the input reads as it did. -/
def layTellsUptoRow : OpenClaim := { program := "ytmmojjpmnmjbkaa", sum := "a1a61ba741ae52892d0d9a7cfbd7dab4b9649d3cc03e659e63475f743a385815", func := "poacher/poacherlaw03.LayTells", spec := "layTells", unfollowed := true, recurses := true, apart := false, narrowed := true }
def LayTellsUptoSaid : Prop := layTellsUptoRow.holds Try.pinned (OpenSpec.upto layTellsSpec)

/-- 'poacherlaw03.LayApart', WHERE WHAT IT READS IS OF BULK AT MOST 1048576: true; the input reads as it did. -/
def layApartUptoRow : OpenClaim := { program := "ytmmojjpmnmjbkaa", sum := "a1a61ba741ae52892d0d9a7cfbd7dab4b9649d3cc03e659e63475f743a385815", func := "poacher/poacherlaw03.LayApart", spec := "layApart", unfollowed := true, recurses := true, apart := false, narrowed := true }
def LayApartUptoSaid : Prop := layApartUptoRow.holds Try.pinned (OpenSpec.upto layApartSpec)

/-- 'poacherlaw03.LayAll', WHERE WHAT IT READS IS OF BULK AT MOST 1048576: true; the input reads as it did. -/
def layAllUptoRow : OpenClaim := { program := "ytmmojjpmnmjbkaa", sum := "a1a61ba741ae52892d0d9a7cfbd7dab4b9649d3cc03e659e63475f743a385815", func := "poacher/poacherlaw03.LayAll", spec := "layAll", unfollowed := true, recurses := true, apart := false, narrowed := true }
def LayAllUptoSaid : Prop := layAllUptoRow.holds Try.pinned (OpenSpec.upto layAllSpec)

/-- 'poacherlaw03.LayRing', WHERE WHAT IT READS IS OF BULK AT MOST 1048576: true; the input reads as it did. -/
def layRingUptoRow : OpenClaim := { program := "ytmmojjpmnmjbkaa", sum := "a1a61ba741ae52892d0d9a7cfbd7dab4b9649d3cc03e659e63475f743a385815", func := "poacher/poacherlaw03.LayRing", spec := "layRing", unfollowed := true, recurses := true, apart := false, narrowed := true }
def LayRingUptoSaid : Prop := layRingUptoRow.holds Try.pinned (OpenSpec.upto layRingSpec)

/-- 'poacherlaw03.LayMay', WHERE WHAT IT READS IS OF BULK AT MOST 1048576: true; the input reads as it did. -/
def layMayUptoRow : OpenClaim := { program := "ytmmojjpmnmjbkaa", sum := "a1a61ba741ae52892d0d9a7cfbd7dab4b9649d3cc03e659e63475f743a385815", func := "poacher/poacherlaw03.LayMay", spec := "layMay", unfollowed := true, recurses := true, apart := false, narrowed := true }
def LayMayUptoSaid : Prop := layMayUptoRow.holds Try.pinned (OpenSpec.upto layMaySpec)

/-- 'poacherlaw03.LaySize', WHERE WHAT IT READS IS OF BULK AT MOST 1048576: true; the input reads as it did. -/
def laySizeUptoRow : OpenClaim := { program := "ytmmojjpmnmjbkaa", sum := "a1a61ba741ae52892d0d9a7cfbd7dab4b9649d3cc03e659e63475f743a385815", func := "poacher/poacherlaw03.LaySize", spec := "laySize", unfollowed := true, recurses := true, apart := false, narrowed := true }
def LaySizeUptoSaid : Prop := laySizeUptoRow.holds Try.pinned (OpenSpec.upto laySizeSpec)

end Rows
end Go.Proofs.Ytmmojjpmnmjbkaa
