/-
  No cell of these rows narrows 'for every input' (looked for: loops, veiled, ifaces, maps, wideKeys, modest, calm, conditions, laid).
  DERIVED. THE GIVEN ROWS OF THIS SEAT. 7 by the template 'for every input the law returns true; each argument reads behind the call as it read before'; 0 by the template 'total and deterministic' (their statements: YtjoihkfjalggjaaTotals.lean).
  GIVEN WITH THE SEED: the statements are not yours to turn. If you find one false, say at which input.
  Laid BY PROGRAM, IN A SANDBOX (cutbox-rows.mjs): the forced cells as the released guide's own fill.sh prints them over the translation 964c57830e8e3966… (all of the seat's roots in one cut). By AI agents, Wed Nov 11 2026. No macro, syntax, notation, axiom, sorry.
-/
import Derived.Test.YtjoihkfjalggjaaChecked
import GoSem.Claim
import GoSem.ClaimJoined
import GoSem.ClaimMapViews
import Derived.JoinedTies
import Derived.KernelRfl
namespace Go.Proofs.Ytjoihkfjalggjaa
/- THE CELL 'sum', in the pinned program and in every row, IS THE sha256 OF THE DUMP (.gsa) THAT YtjoihkfjalggjaaProg.lean LOADS. Nothing in Lean hashes anything: it is a label: what it is worth is what the hold of that sum in a sandbox is worth. -/
noncomputable def Try.pinned : Pinned := { name := "ytjoihkfjalggjaa", sum := "964c57830e8e3966576a9a2c0ccfafca6c3b144e2492d3e32802a4bf665c1627", checked := Try.checked }
namespace Rows
def none {H : Type} : Left H := { results := [], args := [] }

/-- 'poacherlaw01.CellTells': WHATEVER THE INPUT: true; the input reads as it did. -/
def cellTellsSpec : ChangeSpec := { name := "cellTells", fn := fun _ => fun
  | [d1, d2, d3, d4, d5] => { results := [.lit (.bool true)], args := [d1, d2, d3, d4, d5] }
  | _ => none }
def cellTellsRow : OpenClaim := { program := "ytjoihkfjalggjaa", sum := "964c57830e8e3966576a9a2c0ccfafca6c3b144e2492d3e32802a4bf665c1627", func := "poacher/poacherlaw01.CellTells", spec := "cellTells", unfollowed := true, recurses := true, apart := false }
def CellTellsSaid : Prop := cellTellsRow.holds Try.pinned (OpenSpec.ofChange cellTellsSpec)

/-- ITS FALSE NEIGHBOUR: 'it returns false'. Refute it at one input. -/
def cellTellsWrong : ChangeSpec := { name := "cellTells", fn := fun _ => fun
  | [d1, d2, d3, d4, d5] => { results := [.lit (.bool false)], args := [d1, d2, d3, d4, d5] }
  | _ => none }
def CellTellsWrongFalsely : Prop := cellTellsRow.holds Try.pinned (OpenSpec.ofChange cellTellsWrong)

/-- 'poacherlaw01.CellOther': WHATEVER THE INPUT: true; the input reads as it did. -/
def cellOtherSpec : ChangeSpec := { name := "cellOther", fn := fun _ => fun
  | [d1, d2, d3, d4, d5] => { results := [.lit (.bool true)], args := [d1, d2, d3, d4, d5] }
  | _ => none }
def cellOtherRow : OpenClaim := { program := "ytjoihkfjalggjaa", sum := "964c57830e8e3966576a9a2c0ccfafca6c3b144e2492d3e32802a4bf665c1627", func := "poacher/poacherlaw01.CellOther", spec := "cellOther", unfollowed := true, recurses := true, apart := false }
def CellOtherSaid : Prop := cellOtherRow.holds Try.pinned (OpenSpec.ofChange cellOtherSpec)

/-- ITS FALSE NEIGHBOUR: 'it returns false'. Refute it at one input. -/
def cellOtherWrong : ChangeSpec := { name := "cellOther", fn := fun _ => fun
  | [d1, d2, d3, d4, d5] => { results := [.lit (.bool false)], args := [d1, d2, d3, d4, d5] }
  | _ => none }
def CellOtherWrongFalsely : Prop := cellOtherRow.holds Try.pinned (OpenSpec.ofChange cellOtherWrong)

/-- 'poacherlaw01.CellCas': WHATEVER THE INPUT: true; the input reads as it did. -/
def cellCasSpec : ChangeSpec := { name := "cellCas", fn := fun _ => fun
  | [d1, d2, d3, d4] => { results := [.lit (.bool true)], args := [d1, d2, d3, d4] }
  | _ => none }
def cellCasRow : OpenClaim := { program := "ytjoihkfjalggjaa", sum := "964c57830e8e3966576a9a2c0ccfafca6c3b144e2492d3e32802a4bf665c1627", func := "poacher/poacherlaw01.CellCas", spec := "cellCas", unfollowed := true, recurses := true, apart := false }
def CellCasSaid : Prop := cellCasRow.holds Try.pinned (OpenSpec.ofChange cellCasSpec)

/-- ITS FALSE NEIGHBOUR: 'it returns false'. Refute it at one input. -/
def cellCasWrong : ChangeSpec := { name := "cellCas", fn := fun _ => fun
  | [d1, d2, d3, d4] => { results := [.lit (.bool false)], args := [d1, d2, d3, d4] }
  | _ => none }
def CellCasWrongFalsely : Prop := cellCasRow.holds Try.pinned (OpenSpec.ofChange cellCasWrong)

/-- 'poacherlaw01.CellAdd': WHATEVER THE INPUT: true; the input reads as it did. -/
def cellAddSpec : ChangeSpec := { name := "cellAdd", fn := fun _ => fun
  | [d1, d2, d3, d4] => { results := [.lit (.bool true)], args := [d1, d2, d3, d4] }
  | _ => none }
def cellAddRow : OpenClaim := { program := "ytjoihkfjalggjaa", sum := "964c57830e8e3966576a9a2c0ccfafca6c3b144e2492d3e32802a4bf665c1627", func := "poacher/poacherlaw01.CellAdd", spec := "cellAdd", unfollowed := true, recurses := true, apart := false }
def CellAddSaid : Prop := cellAddRow.holds Try.pinned (OpenSpec.ofChange cellAddSpec)

/-- ITS FALSE NEIGHBOUR: 'it returns false'. Refute it at one input. -/
def cellAddWrong : ChangeSpec := { name := "cellAdd", fn := fun _ => fun
  | [d1, d2, d3, d4] => { results := [.lit (.bool false)], args := [d1, d2, d3, d4] }
  | _ => none }
def CellAddWrongFalsely : Prop := cellAddRow.holds Try.pinned (OpenSpec.ofChange cellAddWrong)

/-- 'poacherlaw01.CellLoad': WHATEVER THE INPUT: true; the input reads as it did. -/
def cellLoadSpec : ChangeSpec := { name := "cellLoad", fn := fun _ => fun
  | [d1, d2, d3, d4] => { results := [.lit (.bool true)], args := [d1, d2, d3, d4] }
  | _ => none }
def cellLoadRow : OpenClaim := { program := "ytjoihkfjalggjaa", sum := "964c57830e8e3966576a9a2c0ccfafca6c3b144e2492d3e32802a4bf665c1627", func := "poacher/poacherlaw01.CellLoad", spec := "cellLoad", unfollowed := true, recurses := true, apart := false }
def CellLoadSaid : Prop := cellLoadRow.holds Try.pinned (OpenSpec.ofChange cellLoadSpec)

/-- ITS FALSE NEIGHBOUR: 'it returns false'. Refute it at one input. -/
def cellLoadWrong : ChangeSpec := { name := "cellLoad", fn := fun _ => fun
  | [d1, d2, d3, d4] => { results := [.lit (.bool false)], args := [d1, d2, d3, d4] }
  | _ => none }
def CellLoadWrongFalsely : Prop := cellLoadRow.holds Try.pinned (OpenSpec.ofChange cellLoadWrong)

/-- 'poacherlaw01.CellTwo': WHATEVER THE INPUT: true; the input reads as it did. -/
def cellTwoSpec : ChangeSpec := { name := "cellTwo", fn := fun _ => fun
  | [d1, d2, d3, d4, d5] => { results := [.lit (.bool true)], args := [d1, d2, d3, d4, d5] }
  | _ => none }
def cellTwoRow : OpenClaim := { program := "ytjoihkfjalggjaa", sum := "964c57830e8e3966576a9a2c0ccfafca6c3b144e2492d3e32802a4bf665c1627", func := "poacher/poacherlaw01.CellTwo", spec := "cellTwo", unfollowed := true, recurses := true, apart := false }
def CellTwoSaid : Prop := cellTwoRow.holds Try.pinned (OpenSpec.ofChange cellTwoSpec)

/-- ITS FALSE NEIGHBOUR: 'it returns false'. Refute it at one input. -/
def cellTwoWrong : ChangeSpec := { name := "cellTwo", fn := fun _ => fun
  | [d1, d2, d3, d4, d5] => { results := [.lit (.bool false)], args := [d1, d2, d3, d4, d5] }
  | _ => none }
def CellTwoWrongFalsely : Prop := cellTwoRow.holds Try.pinned (OpenSpec.ofChange cellTwoWrong)

/-- 'poacherlaw01.CellSame': WHATEVER THE INPUT: true; the input reads as it did. -/
def cellSameSpec : ChangeSpec := { name := "cellSame", fn := fun _ => fun
  | [d1, d2, d3] => { results := [.lit (.bool true)], args := [d1, d2, d3] }
  | _ => none }
def cellSameRow : OpenClaim := { program := "ytjoihkfjalggjaa", sum := "964c57830e8e3966576a9a2c0ccfafca6c3b144e2492d3e32802a4bf665c1627", func := "poacher/poacherlaw01.CellSame", spec := "cellSame", unfollowed := true, recurses := true, apart := false }
def CellSameSaid : Prop := cellSameRow.holds Try.pinned (OpenSpec.ofChange cellSameSpec)

/-- ITS FALSE NEIGHBOUR: 'it returns false'. Refute it at one input. -/
def cellSameWrong : ChangeSpec := { name := "cellSame", fn := fun _ => fun
  | [d1, d2, d3] => { results := [.lit (.bool false)], args := [d1, d2, d3] }
  | _ => none }
def CellSameWrongFalsely : Prop := cellSameRow.holds Try.pinned (OpenSpec.ofChange cellSameWrong)

/- THE SECOND FORM. 'bulk': how many values and letters a reading holds, each counted each time it is reached (what is shared counts as often as it is met; a slice's spare places count too). A statement '..UptoSaid' is the law's where the arguments, and the package variables that the reading takes, are together of bulk at most 1048576: NARROWER than '..Said'. Prove '..Said' where nothing that the law and all that it calls make is longer than what came in: it says more and counts as full. Else prove '..UptoSaid'. A law counts once. -/
mutual
def uptoBulk {H : Type} : DataW H → Nat
  | .lit (.string bytes) => bytes.length + 1
  | .lit _ => 1
  | .nil => 1
  | .ptr d => uptoBulk d + 1
  | .slice elems spare => uptoBulkAll elems + uptoBulkAll spare + 1
  | .agg parts => uptoBulkAll parts + 1
  | .iface _ d => uptoBulk d + 1
  | .map entries => uptoBulkEntries entries + 1
  | .held _ => 1
def uptoBulkAll {H : Type} : List (DataW H) → Nat
  | [] => 0
  | d :: r => uptoBulk d + uptoBulkAll r
def uptoBulkEntries {H : Type} : List (Lit × DataW H) → Nat
  | [] => 0
  | x :: r => uptoBulkEntry x + uptoBulkEntries r
def uptoBulkEntry {H : Type} : Lit × DataW H → Nat
  | (.string bytes, d) => bytes.length + uptoBulk d + 1
  | (_, d) => uptoBulk d + 1
 end
def uptoSmall : (H : Type) → List (DataW H) → Bool := fun _ ds => decide (uptoBulkAll ds ≤ 1048576)
def OpenSpec.upto (s : _root_.Go.ChangeSpec) : _root_.Go.OpenSpec := { _root_.Go.OpenSpec.ofChange s with cond := some uptoSmall }

/-- 'poacherlaw01.CellTells', WHERE WHAT IT READS IS OF BULK AT MOST 1048576: true; the input reads as it did. -/
def cellTellsUptoRow : OpenClaim := { program := "ytjoihkfjalggjaa", sum := "964c57830e8e3966576a9a2c0ccfafca6c3b144e2492d3e32802a4bf665c1627", func := "poacher/poacherlaw01.CellTells", spec := "cellTells", unfollowed := true, recurses := true, apart := false, narrowed := true }
def CellTellsUptoSaid : Prop := cellTellsUptoRow.holds Try.pinned (OpenSpec.upto cellTellsSpec)

/-- 'poacherlaw01.CellOther', WHERE WHAT IT READS IS OF BULK AT MOST 1048576: true; the input reads as it did. -/
def cellOtherUptoRow : OpenClaim := { program := "ytjoihkfjalggjaa", sum := "964c57830e8e3966576a9a2c0ccfafca6c3b144e2492d3e32802a4bf665c1627", func := "poacher/poacherlaw01.CellOther", spec := "cellOther", unfollowed := true, recurses := true, apart := false, narrowed := true }
def CellOtherUptoSaid : Prop := cellOtherUptoRow.holds Try.pinned (OpenSpec.upto cellOtherSpec)

/-- 'poacherlaw01.CellCas', WHERE WHAT IT READS IS OF BULK AT MOST 1048576: true; the input reads as it did. -/
def cellCasUptoRow : OpenClaim := { program := "ytjoihkfjalggjaa", sum := "964c57830e8e3966576a9a2c0ccfafca6c3b144e2492d3e32802a4bf665c1627", func := "poacher/poacherlaw01.CellCas", spec := "cellCas", unfollowed := true, recurses := true, apart := false, narrowed := true }
def CellCasUptoSaid : Prop := cellCasUptoRow.holds Try.pinned (OpenSpec.upto cellCasSpec)

/-- 'poacherlaw01.CellAdd', WHERE WHAT IT READS IS OF BULK AT MOST 1048576: true; the input reads as it did. -/
def cellAddUptoRow : OpenClaim := { program := "ytjoihkfjalggjaa", sum := "964c57830e8e3966576a9a2c0ccfafca6c3b144e2492d3e32802a4bf665c1627", func := "poacher/poacherlaw01.CellAdd", spec := "cellAdd", unfollowed := true, recurses := true, apart := false, narrowed := true }
def CellAddUptoSaid : Prop := cellAddUptoRow.holds Try.pinned (OpenSpec.upto cellAddSpec)

/-- 'poacherlaw01.CellLoad', WHERE WHAT IT READS IS OF BULK AT MOST 1048576: true; the input reads as it did. -/
def cellLoadUptoRow : OpenClaim := { program := "ytjoihkfjalggjaa", sum := "964c57830e8e3966576a9a2c0ccfafca6c3b144e2492d3e32802a4bf665c1627", func := "poacher/poacherlaw01.CellLoad", spec := "cellLoad", unfollowed := true, recurses := true, apart := false, narrowed := true }
def CellLoadUptoSaid : Prop := cellLoadUptoRow.holds Try.pinned (OpenSpec.upto cellLoadSpec)

/-- 'poacherlaw01.CellTwo', WHERE WHAT IT READS IS OF BULK AT MOST 1048576: true; the input reads as it did. -/
def cellTwoUptoRow : OpenClaim := { program := "ytjoihkfjalggjaa", sum := "964c57830e8e3966576a9a2c0ccfafca6c3b144e2492d3e32802a4bf665c1627", func := "poacher/poacherlaw01.CellTwo", spec := "cellTwo", unfollowed := true, recurses := true, apart := false, narrowed := true }
def CellTwoUptoSaid : Prop := cellTwoUptoRow.holds Try.pinned (OpenSpec.upto cellTwoSpec)

/-- 'poacherlaw01.CellSame', WHERE WHAT IT READS IS OF BULK AT MOST 1048576: true; the input reads as it did. -/
def cellSameUptoRow : OpenClaim := { program := "ytjoihkfjalggjaa", sum := "964c57830e8e3966576a9a2c0ccfafca6c3b144e2492d3e32802a4bf665c1627", func := "poacher/poacherlaw01.CellSame", spec := "cellSame", unfollowed := true, recurses := true, apart := false, narrowed := true }
def CellSameUptoSaid : Prop := cellSameUptoRow.holds Try.pinned (OpenSpec.upto cellSameSpec)

end Rows
end Go.Proofs.Ytjoihkfjalggjaa
