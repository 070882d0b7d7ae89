/-
  No cell of these rows narrows 'for every input' (looked for: loops, veiled, ifaces, maps, wideKeys, modest, calm, conditions, laid).
  DERIVED. THE GIVEN ROWS OF THIS SEAT. 6 by the template 'for every input the law returns true; each argument reads behind the call as it read before'; 0 by the template 'total and deterministic' (their statements: YtelelhjgejnpcaaTotals.lean).
  GIVEN WITH THE SEED: the statements are not yours to turn. If you find one false, say at which input.
  Laid BY PROGRAM, IN A SANDBOX (cutbox-rows.mjs): the forced cells as the released guide's own fill.sh prints them over the translation 7b63fb07bf9b9479… (all of the seat's roots in one cut). By AI agents, Wed Nov 11 2026. No macro, syntax, notation, axiom, sorry.
-/
import Derived.Test.YtelelhjgejnpcaaChecked
import GoSem.Claim
import GoSem.ClaimJoined
import GoSem.ClaimMapViews
import Derived.JoinedTies
import Derived.KernelRfl
namespace Go.Proofs.Ytelelhjgejnpcaa
/- THE CELL 'sum', in the pinned program and in every row, IS THE sha256 OF THE DUMP (.gsa) THAT YtelelhjgejnpcaaProg.lean LOADS. Nothing in Lean hashes anything: it is a label: what it is worth is what the hold of that sum in a sandbox is worth. -/
noncomputable def Try.pinned : Pinned := { name := "ytelelhjgejnpcaa", sum := "7b63fb07bf9b947967ec5f70a21c256179a65919ddc7deb50a59fd2de25b320a", checked := Try.checked }
namespace Rows
def none {H : Type} : Left H := { results := [], args := [] }

/-- 'poacherlaw12.DeqTells': WHATEVER THE INPUT: true; the input reads as it did. -/
def deqTellsSpec : ChangeSpec := { name := "deqTells", fn := fun _ => fun
  | [d1, d2, d3] => { results := [.lit (.bool true)], args := [d1, d2, d3] }
  | _ => none }
def deqTellsRow : OpenClaim := { program := "ytelelhjgejnpcaa", sum := "7b63fb07bf9b947967ec5f70a21c256179a65919ddc7deb50a59fd2de25b320a", func := "poacher/poacherlaw12.DeqTells", spec := "deqTells", unfollowed := true, recurses := true, apart := false }
def DeqTellsSaid : Prop := deqTellsRow.holds Try.pinned (OpenSpec.ofChange deqTellsSpec)

/-- ITS FALSE NEIGHBOUR: 'it returns false'. Refute it at one input. -/
def deqTellsWrong : ChangeSpec := { name := "deqTells", fn := fun _ => fun
  | [d1, d2, d3] => { results := [.lit (.bool false)], args := [d1, d2, d3] }
  | _ => none }
def DeqTellsWrongFalsely : Prop := deqTellsRow.holds Try.pinned (OpenSpec.ofChange deqTellsWrong)

/-- 'poacherlaw12.DeqAlone': WHATEVER THE INPUT: true; the input reads as it did. -/
def deqAloneSpec : ChangeSpec := { name := "deqAlone", fn := fun _ => fun
  | [d1, d2, d3] => { results := [.lit (.bool true)], args := [d1, d2, d3] }
  | _ => none }
def deqAloneRow : OpenClaim := { program := "ytelelhjgejnpcaa", sum := "7b63fb07bf9b947967ec5f70a21c256179a65919ddc7deb50a59fd2de25b320a", func := "poacher/poacherlaw12.DeqAlone", spec := "deqAlone", unfollowed := true, recurses := true, apart := false }
def DeqAloneSaid : Prop := deqAloneRow.holds Try.pinned (OpenSpec.ofChange deqAloneSpec)

/-- ITS FALSE NEIGHBOUR: 'it returns false'. Refute it at one input. -/
def deqAloneWrong : ChangeSpec := { name := "deqAlone", fn := fun _ => fun
  | [d1, d2, d3] => { results := [.lit (.bool false)], args := [d1, d2, d3] }
  | _ => none }
def DeqAloneWrongFalsely : Prop := deqAloneRow.holds Try.pinned (OpenSpec.ofChange deqAloneWrong)

/-- 'poacherlaw12.DeqOrder': WHATEVER THE INPUT: true; the input reads as it did. -/
def deqOrderSpec : ChangeSpec := { name := "deqOrder", fn := fun _ => fun
  | [d1, d2] => { results := [.lit (.bool true)], args := [d1, d2] }
  | _ => none }
def deqOrderRow : OpenClaim := { program := "ytelelhjgejnpcaa", sum := "7b63fb07bf9b947967ec5f70a21c256179a65919ddc7deb50a59fd2de25b320a", func := "poacher/poacherlaw12.DeqOrder", spec := "deqOrder", unfollowed := true, recurses := true, apart := false }
def DeqOrderSaid : Prop := deqOrderRow.holds Try.pinned (OpenSpec.ofChange deqOrderSpec)

/-- ITS FALSE NEIGHBOUR: 'it returns false'. Refute it at one input. -/
def deqOrderWrong : ChangeSpec := { name := "deqOrder", fn := fun _ => fun
  | [d1, d2] => { results := [.lit (.bool false)], args := [d1, d2] }
  | _ => none }
def DeqOrderWrongFalsely : Prop := deqOrderRow.holds Try.pinned (OpenSpec.ofChange deqOrderWrong)

/-- 'poacherlaw12.DeqCells': WHATEVER THE INPUT: true; the input reads as it did. -/
def deqCellsSpec : ChangeSpec := { name := "deqCells", fn := fun _ => fun
  | [d1, d2, d3] => { results := [.lit (.bool true)], args := [d1, d2, d3] }
  | _ => none }
def deqCellsRow : OpenClaim := { program := "ytelelhjgejnpcaa", sum := "7b63fb07bf9b947967ec5f70a21c256179a65919ddc7deb50a59fd2de25b320a", func := "poacher/poacherlaw12.DeqCells", spec := "deqCells", unfollowed := true, recurses := true, apart := false }
def DeqCellsSaid : Prop := deqCellsRow.holds Try.pinned (OpenSpec.ofChange deqCellsSpec)

/-- ITS FALSE NEIGHBOUR: 'it returns false'. Refute it at one input. -/
def deqCellsWrong : ChangeSpec := { name := "deqCells", fn := fun _ => fun
  | [d1, d2, d3] => { results := [.lit (.bool false)], args := [d1, d2, d3] }
  | _ => none }
def DeqCellsWrongFalsely : Prop := deqCellsRow.holds Try.pinned (OpenSpec.ofChange deqCellsWrong)

/-- 'poacherlaw12.DeqTwo': WHATEVER THE INPUT: true; the input reads as it did. -/
def deqTwoSpec : ChangeSpec := { name := "deqTwo", fn := fun _ => fun
  | [d1, d2] => { results := [.lit (.bool true)], args := [d1, d2] }
  | _ => none }
def deqTwoRow : OpenClaim := { program := "ytelelhjgejnpcaa", sum := "7b63fb07bf9b947967ec5f70a21c256179a65919ddc7deb50a59fd2de25b320a", func := "poacher/poacherlaw12.DeqTwo", spec := "deqTwo", unfollowed := true, recurses := true, apart := false }
def DeqTwoSaid : Prop := deqTwoRow.holds Try.pinned (OpenSpec.ofChange deqTwoSpec)

/-- ITS FALSE NEIGHBOUR: 'it returns false'. Refute it at one input. -/
def deqTwoWrong : ChangeSpec := { name := "deqTwo", fn := fun _ => fun
  | [d1, d2] => { results := [.lit (.bool false)], args := [d1, d2] }
  | _ => none }
def DeqTwoWrongFalsely : Prop := deqTwoRow.holds Try.pinned (OpenSpec.ofChange deqTwoWrong)

/-- 'poacherlaw12.DeqEarly': WHATEVER THE INPUT: true; the input reads as it did. -/
def deqEarlySpec : ChangeSpec := { name := "deqEarly", fn := fun _ => fun
  | [d1, d2] => { results := [.lit (.bool true)], args := [d1, d2] }
  | _ => none }
def deqEarlyRow : OpenClaim := { program := "ytelelhjgejnpcaa", sum := "7b63fb07bf9b947967ec5f70a21c256179a65919ddc7deb50a59fd2de25b320a", func := "poacher/poacherlaw12.DeqEarly", spec := "deqEarly", unfollowed := true, recurses := true, apart := false }
def DeqEarlySaid : Prop := deqEarlyRow.holds Try.pinned (OpenSpec.ofChange deqEarlySpec)

/-- ITS FALSE NEIGHBOUR: 'it returns false'. Refute it at one input. -/
def deqEarlyWrong : ChangeSpec := { name := "deqEarly", fn := fun _ => fun
  | [d1, d2] => { results := [.lit (.bool false)], args := [d1, d2] }
  | _ => none }
def DeqEarlyWrongFalsely : Prop := deqEarlyRow.holds Try.pinned (OpenSpec.ofChange deqEarlyWrong)

/- THE SECOND FORM. 'bulk': how many values and letters a reading holds, each counted each time it is reached (what is shared counts as often as it is met; a slice's spare places count too). A statement '..UptoSaid' is the law's where the arguments, and the package variables that the reading takes, are together of bulk at most 1048576: NARROWER than '..Said'. Prove '..Said' where nothing that the law and all that it calls make is longer than what came in: it says more and counts as full. Else prove '..UptoSaid'. A law counts once. -/
mutual
def uptoBulk {H : Type} : DataW H → Nat
  | .lit (.string bytes) => bytes.length + 1
  | .lit _ => 1
  | .nil => 1
  | .ptr d => uptoBulk d + 1
  | .slice elems spare => uptoBulkAll elems + uptoBulkAll spare + 1
  | .agg parts => uptoBulkAll parts + 1
  | .iface _ d => uptoBulk d + 1
  | .map entries => uptoBulkEntries entries + 1
  | .held _ => 1
def uptoBulkAll {H : Type} : List (DataW H) → Nat
  | [] => 0
  | d :: r => uptoBulk d + uptoBulkAll r
def uptoBulkEntries {H : Type} : List (Lit × DataW H) → Nat
  | [] => 0
  | x :: r => uptoBulkEntry x + uptoBulkEntries r
def uptoBulkEntry {H : Type} : Lit × DataW H → Nat
  | (.string bytes, d) => bytes.length + uptoBulk d + 1
  | (_, d) => uptoBulk d + 1
 end
def uptoSmall : (H : Type) → List (DataW H) → Bool := fun _ ds => decide (uptoBulkAll ds ≤ 1048576)
def OpenSpec.upto (s : _root_.Go.ChangeSpec) : _root_.Go.OpenSpec := { _root_.Go.OpenSpec.ofChange s with cond := some uptoSmall }

/-- 'poacherlaw12.DeqTells', WHERE WHAT IT READS IS OF BULK AT MOST 1048576: true; the input reads as it did. -/
def deqTellsUptoRow : OpenClaim := { program := "ytelelhjgejnpcaa", sum := "7b63fb07bf9b947967ec5f70a21c256179a65919ddc7deb50a59fd2de25b320a", func := "poacher/poacherlaw12.DeqTells", spec := "deqTells", unfollowed := true, recurses := true, apart := false, narrowed := true }
def DeqTellsUptoSaid : Prop := deqTellsUptoRow.holds Try.pinned (OpenSpec.upto deqTellsSpec)

/-- 'poacherlaw12.DeqAlone', WHERE WHAT IT READS IS OF BULK AT MOST 1048576: true; the input reads as it did. -/
def deqAloneUptoRow : OpenClaim := { program := "ytelelhjgejnpcaa", sum := "7b63fb07bf9b947967ec5f70a21c256179a65919ddc7deb50a59fd2de25b320a", func := "poacher/poacherlaw12.DeqAlone", spec := "deqAlone", unfollowed := true, recurses := true, apart := false, narrowed := true }
def DeqAloneUptoSaid : Prop := deqAloneUptoRow.holds Try.pinned (OpenSpec.upto deqAloneSpec)

/-- 'poacherlaw12.DeqOrder', WHERE WHAT IT READS IS OF BULK AT MOST 1048576: true; the input reads as it did. -/
def deqOrderUptoRow : OpenClaim := { program := "ytelelhjgejnpcaa", sum := "7b63fb07bf9b947967ec5f70a21c256179a65919ddc7deb50a59fd2de25b320a", func := "poacher/poacherlaw12.DeqOrder", spec := "deqOrder", unfollowed := true, recurses := true, apart := false, narrowed := true }
def DeqOrderUptoSaid : Prop := deqOrderUptoRow.holds Try.pinned (OpenSpec.upto deqOrderSpec)

/-- 'poacherlaw12.DeqCells', WHERE WHAT IT READS IS OF BULK AT MOST 1048576: true; the input reads as it did. -/
def deqCellsUptoRow : OpenClaim := { program := "ytelelhjgejnpcaa", sum := "7b63fb07bf9b947967ec5f70a21c256179a65919ddc7deb50a59fd2de25b320a", func := "poacher/poacherlaw12.DeqCells", spec := "deqCells", unfollowed := true, recurses := true, apart := false, narrowed := true }
def DeqCellsUptoSaid : Prop := deqCellsUptoRow.holds Try.pinned (OpenSpec.upto deqCellsSpec)

/-- 'poacherlaw12.DeqTwo', WHERE WHAT IT READS IS OF BULK AT MOST 1048576: true; the input reads as it did. -/
def deqTwoUptoRow : OpenClaim := { program := "ytelelhjgejnpcaa", sum := "7b63fb07bf9b947967ec5f70a21c256179a65919ddc7deb50a59fd2de25b320a", func := "poacher/poacherlaw12.DeqTwo", spec := "deqTwo", unfollowed := true, recurses := true, apart := false, narrowed := true }
def DeqTwoUptoSaid : Prop := deqTwoUptoRow.holds Try.pinned (OpenSpec.upto deqTwoSpec)

/-- 'poacherlaw12.DeqEarly', WHERE WHAT IT READS IS OF BULK AT MOST 1048576: true; the input reads as it did. -/
def deqEarlyUptoRow : OpenClaim := { program := "ytelelhjgejnpcaa", sum := "7b63fb07bf9b947967ec5f70a21c256179a65919ddc7deb50a59fd2de25b320a", func := "poacher/poacherlaw12.DeqEarly", spec := "deqEarly", unfollowed := true, recurses := true, apart := false, narrowed := true }
def DeqEarlyUptoSaid : Prop := deqEarlyUptoRow.holds Try.pinned (OpenSpec.upto deqEarlySpec)

end Rows
end Go.Proofs.Ytelelhjgejnpcaa
