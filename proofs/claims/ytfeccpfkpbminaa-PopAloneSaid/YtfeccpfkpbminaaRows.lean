/-
  No cell of these rows narrows 'for every input' (looked for: loops, veiled, ifaces, maps, wideKeys, modest, calm, conditions, laid).
  DERIVED. THE GIVEN ROWS OF THIS SEAT. 6 by the template 'for every input the law returns true; each argument reads behind the call as it read before'; 0 by the template 'total and deterministic' (their statements: YtfeccpfkpbminaaTotals.lean).
  GIVEN WITH THE SEED: the statements are not yours to turn. If you find one false, say at which input.
  Laid BY PROGRAM, IN A SANDBOX (cutbox-rows.mjs): the forced cells as the released guide's own fill.sh prints them over the translation bae995950ec6dad6… (all of the seat's roots in one cut). By AI agents, Wed Nov 11 2026. No macro, syntax, notation, axiom, sorry.
-/
import Derived.Test.YtfeccpfkpbminaaChecked
import GoSem.Claim
import GoSem.ClaimJoined
import GoSem.ClaimMapViews
import Derived.JoinedTies
import Derived.KernelRfl
namespace Go.Proofs.Ytfeccpfkpbminaa
/- THE CELL 'sum', in the pinned program and in every row, IS THE sha256 OF THE DUMP (.gsa) THAT YtfeccpfkpbminaaProg.lean LOADS. Nothing in Lean hashes anything: it is a label: what it is worth is what the hold of that sum in a sandbox is worth. -/
noncomputable def Try.pinned : Pinned := { name := "ytfeccpfkpbminaa", sum := "bae995950ec6dad660a4e08f38a4e7b2cd2052a5dc22ab0ee54cb9318a0bdd93", checked := Try.checked }
namespace Rows
def none {H : Type} : Left H := { results := [], args := [] }

/-- 'poacherlaw08.PopTells': WHATEVER THE INPUT: true; the input reads as it did. -/
def popTellsSpec : ChangeSpec := { name := "popTells", fn := fun _ => fun
  | [d1, d2, d3] => { results := [.lit (.bool true)], args := [d1, d2, d3] }
  | _ => none }
def popTellsRow : OpenClaim := { program := "ytfeccpfkpbminaa", sum := "bae995950ec6dad660a4e08f38a4e7b2cd2052a5dc22ab0ee54cb9318a0bdd93", func := "poacher/poacherlaw08.PopTells", spec := "popTells", unfollowed := true, recurses := true, apart := false }
def PopTellsSaid : Prop := popTellsRow.holds Try.pinned (OpenSpec.ofChange popTellsSpec)

/-- ITS FALSE NEIGHBOUR: 'it returns false'. Refute it at one input. -/
def popTellsWrong : ChangeSpec := { name := "popTells", fn := fun _ => fun
  | [d1, d2, d3] => { results := [.lit (.bool false)], args := [d1, d2, d3] }
  | _ => none }
def PopTellsWrongFalsely : Prop := popTellsRow.holds Try.pinned (OpenSpec.ofChange popTellsWrong)

/-- 'poacherlaw08.PopAlone': WHATEVER THE INPUT: true; the input reads as it did. -/
def popAloneSpec : ChangeSpec := { name := "popAlone", fn := fun _ => fun
  | [d1, d2, d3] => { results := [.lit (.bool true)], args := [d1, d2, d3] }
  | _ => none }
def popAloneRow : OpenClaim := { program := "ytfeccpfkpbminaa", sum := "bae995950ec6dad660a4e08f38a4e7b2cd2052a5dc22ab0ee54cb9318a0bdd93", func := "poacher/poacherlaw08.PopAlone", spec := "popAlone", unfollowed := true, recurses := true, apart := false }
def PopAloneSaid : Prop := popAloneRow.holds Try.pinned (OpenSpec.ofChange popAloneSpec)

/-- ITS FALSE NEIGHBOUR: 'it returns false'. Refute it at one input. -/
def popAloneWrong : ChangeSpec := { name := "popAlone", fn := fun _ => fun
  | [d1, d2, d3] => { results := [.lit (.bool false)], args := [d1, d2, d3] }
  | _ => none }
def PopAloneWrongFalsely : Prop := popAloneRow.holds Try.pinned (OpenSpec.ofChange popAloneWrong)

/-- 'poacherlaw08.PopBack': WHATEVER THE INPUT: true; the input reads as it did. -/
def popBackSpec : ChangeSpec := { name := "popBack", fn := fun _ => fun
  | [d1, d2, d3, d4] => { results := [.lit (.bool true)], args := [d1, d2, d3, d4] }
  | _ => none }
def popBackRow : OpenClaim := { program := "ytfeccpfkpbminaa", sum := "bae995950ec6dad660a4e08f38a4e7b2cd2052a5dc22ab0ee54cb9318a0bdd93", func := "poacher/poacherlaw08.PopBack", spec := "popBack", unfollowed := true, recurses := true, apart := false }
def PopBackSaid : Prop := popBackRow.holds Try.pinned (OpenSpec.ofChange popBackSpec)

/-- ITS FALSE NEIGHBOUR: 'it returns false'. Refute it at one input. -/
def popBackWrong : ChangeSpec := { name := "popBack", fn := fun _ => fun
  | [d1, d2, d3, d4] => { results := [.lit (.bool false)], args := [d1, d2, d3, d4] }
  | _ => none }
def PopBackWrongFalsely : Prop := popBackRow.holds Try.pinned (OpenSpec.ofChange popBackWrong)

/-- 'poacherlaw08.PopCells': WHATEVER THE INPUT: true; the input reads as it did. -/
def popCellsSpec : ChangeSpec := { name := "popCells", fn := fun _ => fun
  | [d1, d2, d3] => { results := [.lit (.bool true)], args := [d1, d2, d3] }
  | _ => none }
def popCellsRow : OpenClaim := { program := "ytfeccpfkpbminaa", sum := "bae995950ec6dad660a4e08f38a4e7b2cd2052a5dc22ab0ee54cb9318a0bdd93", func := "poacher/poacherlaw08.PopCells", spec := "popCells", unfollowed := true, recurses := true, apart := false }
def PopCellsSaid : Prop := popCellsRow.holds Try.pinned (OpenSpec.ofChange popCellsSpec)

/-- ITS FALSE NEIGHBOUR: 'it returns false'. Refute it at one input. -/
def popCellsWrong : ChangeSpec := { name := "popCells", fn := fun _ => fun
  | [d1, d2, d3] => { results := [.lit (.bool false)], args := [d1, d2, d3] }
  | _ => none }
def PopCellsWrongFalsely : Prop := popCellsRow.holds Try.pinned (OpenSpec.ofChange popCellsWrong)

/-- 'poacherlaw08.PopOver': WHATEVER THE INPUT: true; the input reads as it did. -/
def popOverSpec : ChangeSpec := { name := "popOver", fn := fun _ => fun
  | [d1, d2, d3] => { results := [.lit (.bool true)], args := [d1, d2, d3] }
  | _ => none }
def popOverRow : OpenClaim := { program := "ytfeccpfkpbminaa", sum := "bae995950ec6dad660a4e08f38a4e7b2cd2052a5dc22ab0ee54cb9318a0bdd93", func := "poacher/poacherlaw08.PopOver", spec := "popOver", unfollowed := true, recurses := true, apart := false }
def PopOverSaid : Prop := popOverRow.holds Try.pinned (OpenSpec.ofChange popOverSpec)

/-- ITS FALSE NEIGHBOUR: 'it returns false'. Refute it at one input. -/
def popOverWrong : ChangeSpec := { name := "popOver", fn := fun _ => fun
  | [d1, d2, d3] => { results := [.lit (.bool false)], args := [d1, d2, d3] }
  | _ => none }
def PopOverWrongFalsely : Prop := popOverRow.holds Try.pinned (OpenSpec.ofChange popOverWrong)

/-- 'poacherlaw08.PopAll': WHATEVER THE INPUT: true; the input reads as it did. -/
def popAllSpec : ChangeSpec := { name := "popAll", fn := fun _ => fun
  | [d1, d2, d3] => { results := [.lit (.bool true)], args := [d1, d2, d3] }
  | _ => none }
def popAllRow : OpenClaim := { program := "ytfeccpfkpbminaa", sum := "bae995950ec6dad660a4e08f38a4e7b2cd2052a5dc22ab0ee54cb9318a0bdd93", func := "poacher/poacherlaw08.PopAll", spec := "popAll", unfollowed := true, recurses := true, apart := false }
def PopAllSaid : Prop := popAllRow.holds Try.pinned (OpenSpec.ofChange popAllSpec)

/-- ITS FALSE NEIGHBOUR: 'it returns false'. Refute it at one input. -/
def popAllWrong : ChangeSpec := { name := "popAll", fn := fun _ => fun
  | [d1, d2, d3] => { results := [.lit (.bool false)], args := [d1, d2, d3] }
  | _ => none }
def PopAllWrongFalsely : Prop := popAllRow.holds Try.pinned (OpenSpec.ofChange popAllWrong)

/- THE SECOND FORM. 'bulk': how many values and letters a reading holds, each counted each time it is reached (what is shared counts as often as it is met; a slice's spare places count too). A statement '..UptoSaid' is the law's where the arguments, and the package variables that the reading takes, are together of bulk at most 1048576: NARROWER than '..Said'. Prove '..Said' where nothing that the law and all that it calls make is longer than what came in: it says more and counts as full. Else prove '..UptoSaid'. A law counts once. -/
mutual
def uptoBulk {H : Type} : DataW H → Nat
  | .lit (.string bytes) => bytes.length + 1
  | .lit _ => 1
  | .nil => 1
  | .ptr d => uptoBulk d + 1
  | .slice elems spare => uptoBulkAll elems + uptoBulkAll spare + 1
  | .agg parts => uptoBulkAll parts + 1
  | .iface _ d => uptoBulk d + 1
  | .map entries => uptoBulkEntries entries + 1
  | .held _ => 1
def uptoBulkAll {H : Type} : List (DataW H) → Nat
  | [] => 0
  | d :: r => uptoBulk d + uptoBulkAll r
def uptoBulkEntries {H : Type} : List (Lit × DataW H) → Nat
  | [] => 0
  | x :: r => uptoBulkEntry x + uptoBulkEntries r
def uptoBulkEntry {H : Type} : Lit × DataW H → Nat
  | (.string bytes, d) => bytes.length + uptoBulk d + 1
  | (_, d) => uptoBulk d + 1
 end
def uptoSmall : (H : Type) → List (DataW H) → Bool := fun _ ds => decide (uptoBulkAll ds ≤ 1048576)
def OpenSpec.upto (s : _root_.Go.ChangeSpec) : _root_.Go.OpenSpec := { _root_.Go.OpenSpec.ofChange s with cond := some uptoSmall }

/-- 'poacherlaw08.PopTells', WHERE WHAT IT READS IS OF BULK AT MOST 1048576: true; the input reads as it did. -/
def popTellsUptoRow : OpenClaim := { program := "ytfeccpfkpbminaa", sum := "bae995950ec6dad660a4e08f38a4e7b2cd2052a5dc22ab0ee54cb9318a0bdd93", func := "poacher/poacherlaw08.PopTells", spec := "popTells", unfollowed := true, recurses := true, apart := false, narrowed := true }
def PopTellsUptoSaid : Prop := popTellsUptoRow.holds Try.pinned (OpenSpec.upto popTellsSpec)

/-- 'poacherlaw08.PopAlone', WHERE WHAT IT READS IS OF BULK AT MOST 1048576: true; the input reads as it did. -/
def popAloneUptoRow : OpenClaim := { program := "ytfeccpfkpbminaa", sum := "bae995950ec6dad660a4e08f38a4e7b2cd2052a5dc22ab0ee54cb9318a0bdd93", func := "poacher/poacherlaw08.PopAlone", spec := "popAlone", unfollowed := true, recurses := true, apart := false, narrowed := true }
def PopAloneUptoSaid : Prop := popAloneUptoRow.holds Try.pinned (OpenSpec.upto popAloneSpec)

/-- 'poacherlaw08.PopBack', WHERE WHAT IT READS IS OF BULK AT MOST 1048576: true; the input reads as it did. -/
def popBackUptoRow : OpenClaim := { program := "ytfeccpfkpbminaa", sum := "bae995950ec6dad660a4e08f38a4e7b2cd2052a5dc22ab0ee54cb9318a0bdd93", func := "poacher/poacherlaw08.PopBack", spec := "popBack", unfollowed := true, recurses := true, apart := false, narrowed := true }
def PopBackUptoSaid : Prop := popBackUptoRow.holds Try.pinned (OpenSpec.upto popBackSpec)

/-- 'poacherlaw08.PopCells', WHERE WHAT IT READS IS OF BULK AT MOST 1048576: true; the input reads as it did. -/
def popCellsUptoRow : OpenClaim := { program := "ytfeccpfkpbminaa", sum := "bae995950ec6dad660a4e08f38a4e7b2cd2052a5dc22ab0ee54cb9318a0bdd93", func := "poacher/poacherlaw08.PopCells", spec := "popCells", unfollowed := true, recurses := true, apart := false, narrowed := true }
def PopCellsUptoSaid : Prop := popCellsUptoRow.holds Try.pinned (OpenSpec.upto popCellsSpec)

/-- 'poacherlaw08.PopOver', WHERE WHAT IT READS IS OF BULK AT MOST 1048576: true; the input reads as it did. -/
def popOverUptoRow : OpenClaim := { program := "ytfeccpfkpbminaa", sum := "bae995950ec6dad660a4e08f38a4e7b2cd2052a5dc22ab0ee54cb9318a0bdd93", func := "poacher/poacherlaw08.PopOver", spec := "popOver", unfollowed := true, recurses := true, apart := false, narrowed := true }
def PopOverUptoSaid : Prop := popOverUptoRow.holds Try.pinned (OpenSpec.upto popOverSpec)

/-- 'poacherlaw08.PopAll', WHERE WHAT IT READS IS OF BULK AT MOST 1048576: true; the input reads as it did. -/
def popAllUptoRow : OpenClaim := { program := "ytfeccpfkpbminaa", sum := "bae995950ec6dad660a4e08f38a4e7b2cd2052a5dc22ab0ee54cb9318a0bdd93", func := "poacher/poacherlaw08.PopAll", spec := "popAll", unfollowed := true, recurses := true, apart := false, narrowed := true }
def PopAllUptoSaid : Prop := popAllUptoRow.holds Try.pinned (OpenSpec.upto popAllSpec)

end Rows
end Go.Proofs.Ytfeccpfkpbminaa
