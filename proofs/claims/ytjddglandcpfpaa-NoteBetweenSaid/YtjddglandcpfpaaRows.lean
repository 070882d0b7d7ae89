/-
  No cell of these rows narrows 'for every input' (looked for: loops, veiled, ifaces, maps, wideKeys, modest, calm, conditions, laid).
  DERIVED. THE GIVEN ROWS OF THIS SEAT. 5 by the template 'for every input the law returns true; each argument reads behind the call as it read before'; 0 by the template 'total and deterministic' (their statements: YtjddglandcpfpaaTotals.lean).
  GIVEN WITH THE SEED: the statements are not yours to turn. If you find one false, say at which input.
  Laid BY PROGRAM, IN A SANDBOX (cutbox-rows.mjs): the forced cells as the released guide's own fill.sh prints them over the translation c9a44675a2258972… (all of the seat's roots in one cut). By AI agents, Wed Nov 11 2026. No macro, syntax, notation, axiom, sorry.
-/
import Derived.Test.YtjddglandcpfpaaChecked
import GoSem.Claim
import GoSem.ClaimJoined
import GoSem.ClaimMapViews
import Derived.JoinedTies
import Derived.KernelRfl
namespace Go.Proofs.Ytjddglandcpfpaa
/- THE CELL 'sum', in the pinned program and in every row, IS THE sha256 OF THE DUMP (.gsa) THAT YtjddglandcpfpaaProg.lean LOADS. Nothing in Lean hashes anything: it is a label: what it is worth is what the hold of that sum in a sandbox is worth. -/
noncomputable def Try.pinned : Pinned := { name := "ytjddglandcpfpaa", sum := "c9a44675a225897270f9e918e44ca45d582d00de9e6d1786d9d213e2735e5570", checked := Try.checked }
namespace Rows
def none {H : Type} : Left H := { results := [], args := [] }

/-- 'poacherlaw15.NoteOne': WHATEVER THE INPUT: true; the input reads as it did. -/
def noteOneSpec : ChangeSpec := { name := "noteOne", fn := fun _ => fun
  | [d1, d2, d3, d4] => { results := [.lit (.bool true)], args := [d1, d2, d3, d4] }
  | _ => none }
def noteOneRow : OpenClaim := { program := "ytjddglandcpfpaa", sum := "c9a44675a225897270f9e918e44ca45d582d00de9e6d1786d9d213e2735e5570", func := "poacher/poacherlaw15.NoteOne", spec := "noteOne", unfollowed := true, recurses := true, apart := false }
def NoteOneSaid : Prop := noteOneRow.holds Try.pinned (OpenSpec.ofChange noteOneSpec)

/-- ITS FALSE NEIGHBOUR: 'it returns false'. Refute it at one input. -/
def noteOneWrong : ChangeSpec := { name := "noteOne", fn := fun _ => fun
  | [d1, d2, d3, d4] => { results := [.lit (.bool false)], args := [d1, d2, d3, d4] }
  | _ => none }
def NoteOneWrongFalsely : Prop := noteOneRow.holds Try.pinned (OpenSpec.ofChange noteOneWrong)

/-- 'poacherlaw15.NoteBetween': WHATEVER THE INPUT: true; the input reads as it did. -/
def noteBetweenSpec : ChangeSpec := { name := "noteBetween", fn := fun _ => fun
  | [d1, d2, d3, d4] => { results := [.lit (.bool true)], args := [d1, d2, d3, d4] }
  | _ => none }
def noteBetweenRow : OpenClaim := { program := "ytjddglandcpfpaa", sum := "c9a44675a225897270f9e918e44ca45d582d00de9e6d1786d9d213e2735e5570", func := "poacher/poacherlaw15.NoteBetween", spec := "noteBetween", unfollowed := true, recurses := true, apart := false }
def NoteBetweenSaid : Prop := noteBetweenRow.holds Try.pinned (OpenSpec.ofChange noteBetweenSpec)

/-- ITS FALSE NEIGHBOUR: 'it returns false'. Refute it at one input. -/
def noteBetweenWrong : ChangeSpec := { name := "noteBetween", fn := fun _ => fun
  | [d1, d2, d3, d4] => { results := [.lit (.bool false)], args := [d1, d2, d3, d4] }
  | _ => none }
def NoteBetweenWrongFalsely : Prop := noteBetweenRow.holds Try.pinned (OpenSpec.ofChange noteBetweenWrong)

/-- 'poacherlaw15.NoteCells': WHATEVER THE INPUT: true; the input reads as it did. -/
def noteCellsSpec : ChangeSpec := { name := "noteCells", fn := fun _ => fun
  | [d1, d2, d3] => { results := [.lit (.bool true)], args := [d1, d2, d3] }
  | _ => none }
def noteCellsRow : OpenClaim := { program := "ytjddglandcpfpaa", sum := "c9a44675a225897270f9e918e44ca45d582d00de9e6d1786d9d213e2735e5570", func := "poacher/poacherlaw15.NoteCells", spec := "noteCells", unfollowed := true, recurses := true, apart := false }
def NoteCellsSaid : Prop := noteCellsRow.holds Try.pinned (OpenSpec.ofChange noteCellsSpec)

/-- ITS FALSE NEIGHBOUR: 'it returns false'. Refute it at one input. -/
def noteCellsWrong : ChangeSpec := { name := "noteCells", fn := fun _ => fun
  | [d1, d2, d3] => { results := [.lit (.bool false)], args := [d1, d2, d3] }
  | _ => none }
def NoteCellsWrongFalsely : Prop := noteCellsRow.holds Try.pinned (OpenSpec.ofChange noteCellsWrong)

/-- 'poacherlaw15.NoteOwed': WHATEVER THE INPUT: true; the input reads as it did. -/
def noteOwedSpec : ChangeSpec := { name := "noteOwed", fn := fun _ => fun
  | [d1, d2, d3, d4] => { results := [.lit (.bool true)], args := [d1, d2, d3, d4] }
  | _ => none }
def noteOwedRow : OpenClaim := { program := "ytjddglandcpfpaa", sum := "c9a44675a225897270f9e918e44ca45d582d00de9e6d1786d9d213e2735e5570", func := "poacher/poacherlaw15.NoteOwed", spec := "noteOwed", unfollowed := true, recurses := true, apart := false }
def NoteOwedSaid : Prop := noteOwedRow.holds Try.pinned (OpenSpec.ofChange noteOwedSpec)

/-- ITS FALSE NEIGHBOUR: 'it returns false'. Refute it at one input. -/
def noteOwedWrong : ChangeSpec := { name := "noteOwed", fn := fun _ => fun
  | [d1, d2, d3, d4] => { results := [.lit (.bool false)], args := [d1, d2, d3, d4] }
  | _ => none }
def NoteOwedWrongFalsely : Prop := noteOwedRow.holds Try.pinned (OpenSpec.ofChange noteOwedWrong)

/-- 'poacherlaw15.NoteAgain': WHATEVER THE INPUT: true; the input reads as it did. -/
def noteAgainSpec : ChangeSpec := { name := "noteAgain", fn := fun _ => fun
  | [d1, d2, d3, d4] => { results := [.lit (.bool true)], args := [d1, d2, d3, d4] }
  | _ => none }
def noteAgainRow : OpenClaim := { program := "ytjddglandcpfpaa", sum := "c9a44675a225897270f9e918e44ca45d582d00de9e6d1786d9d213e2735e5570", func := "poacher/poacherlaw15.NoteAgain", spec := "noteAgain", unfollowed := true, recurses := true, apart := false }
def NoteAgainSaid : Prop := noteAgainRow.holds Try.pinned (OpenSpec.ofChange noteAgainSpec)

/-- ITS FALSE NEIGHBOUR: 'it returns false'. Refute it at one input. -/
def noteAgainWrong : ChangeSpec := { name := "noteAgain", fn := fun _ => fun
  | [d1, d2, d3, d4] => { results := [.lit (.bool false)], args := [d1, d2, d3, d4] }
  | _ => none }
def NoteAgainWrongFalsely : Prop := noteAgainRow.holds Try.pinned (OpenSpec.ofChange noteAgainWrong)

/- THE SECOND FORM. 'bulk': how many values and letters a reading holds, each counted each time it is reached (what is shared counts as often as it is met; a slice's spare places count too). A statement '..UptoSaid' is the law's where the arguments, and the package variables that the reading takes, are together of bulk at most 1048576: NARROWER than '..Said'. Prove '..Said' where nothing that the law and all that it calls make is longer than what came in: it says more and counts as full. Else prove '..UptoSaid'. A law counts once. -/
mutual
def uptoBulk {H : Type} : DataW H → Nat
  | .lit (.string bytes) => bytes.length + 1
  | .lit _ => 1
  | .nil => 1
  | .ptr d => uptoBulk d + 1
  | .slice elems spare => uptoBulkAll elems + uptoBulkAll spare + 1
  | .agg parts => uptoBulkAll parts + 1
  | .iface _ d => uptoBulk d + 1
  | .map entries => uptoBulkEntries entries + 1
  | .held _ => 1
def uptoBulkAll {H : Type} : List (DataW H) → Nat
  | [] => 0
  | d :: r => uptoBulk d + uptoBulkAll r
def uptoBulkEntries {H : Type} : List (Lit × DataW H) → Nat
  | [] => 0
  | x :: r => uptoBulkEntry x + uptoBulkEntries r
def uptoBulkEntry {H : Type} : Lit × DataW H → Nat
  | (.string bytes, d) => bytes.length + uptoBulk d + 1
  | (_, d) => uptoBulk d + 1
 end
def uptoSmall : (H : Type) → List (DataW H) → Bool := fun _ ds => decide (uptoBulkAll ds ≤ 1048576)
def OpenSpec.upto (s : _root_.Go.ChangeSpec) : _root_.Go.OpenSpec := { _root_.Go.OpenSpec.ofChange s with cond := some uptoSmall }

/-- 'poacherlaw15.NoteOne', WHERE WHAT IT READS IS OF BULK AT MOST 1048576: true; the input reads as it did. -/
def noteOneUptoRow : OpenClaim := { program := "ytjddglandcpfpaa", sum := "c9a44675a225897270f9e918e44ca45d582d00de9e6d1786d9d213e2735e5570", func := "poacher/poacherlaw15.NoteOne", spec := "noteOne", unfollowed := true, recurses := true, apart := false, narrowed := true }
def NoteOneUptoSaid : Prop := noteOneUptoRow.holds Try.pinned (OpenSpec.upto noteOneSpec)

/-- 'poacherlaw15.NoteBetween', WHERE WHAT IT READS IS OF BULK AT MOST 1048576: true; the input reads as it did. -/
def noteBetweenUptoRow : OpenClaim := { program := "ytjddglandcpfpaa", sum := "c9a44675a225897270f9e918e44ca45d582d00de9e6d1786d9d213e2735e5570", func := "poacher/poacherlaw15.NoteBetween", spec := "noteBetween", unfollowed := true, recurses := true, apart := false, narrowed := true }
def NoteBetweenUptoSaid : Prop := noteBetweenUptoRow.holds Try.pinned (OpenSpec.upto noteBetweenSpec)

/-- 'poacherlaw15.NoteCells', WHERE WHAT IT READS IS OF BULK AT MOST 1048576: true; the input reads as it did. -/
def noteCellsUptoRow : OpenClaim := { program := "ytjddglandcpfpaa", sum := "c9a44675a225897270f9e918e44ca45d582d00de9e6d1786d9d213e2735e5570", func := "poacher/poacherlaw15.NoteCells", spec := "noteCells", unfollowed := true, recurses := true, apart := false, narrowed := true }
def NoteCellsUptoSaid : Prop := noteCellsUptoRow.holds Try.pinned (OpenSpec.upto noteCellsSpec)

/-- 'poacherlaw15.NoteOwed', WHERE WHAT IT READS IS OF BULK AT MOST 1048576: true; the input reads as it did. -/
def noteOwedUptoRow : OpenClaim := { program := "ytjddglandcpfpaa", sum := "c9a44675a225897270f9e918e44ca45d582d00de9e6d1786d9d213e2735e5570", func := "poacher/poacherlaw15.NoteOwed", spec := "noteOwed", unfollowed := true, recurses := true, apart := false, narrowed := true }
def NoteOwedUptoSaid : Prop := noteOwedUptoRow.holds Try.pinned (OpenSpec.upto noteOwedSpec)

/-- 'poacherlaw15.NoteAgain', WHERE WHAT IT READS IS OF BULK AT MOST 1048576: true; the input reads as it did. -/
def noteAgainUptoRow : OpenClaim := { program := "ytjddglandcpfpaa", sum := "c9a44675a225897270f9e918e44ca45d582d00de9e6d1786d9d213e2735e5570", func := "poacher/poacherlaw15.NoteAgain", spec := "noteAgain", unfollowed := true, recurses := true, apart := false, narrowed := true }
def NoteAgainUptoSaid : Prop := noteAgainUptoRow.holds Try.pinned (OpenSpec.upto noteAgainSpec)

end Rows
end Go.Proofs.Ytjddglandcpfpaa
