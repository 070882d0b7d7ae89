/-
  No cell of these rows narrows 'for every input' (looked for: loops, veiled, ifaces, maps, wideKeys, modest, calm, conditions, laid).
  DERIVED. THE GIVEN ROWS OF THIS SEAT. 7 by the template 'for every input the law returns true; each argument reads behind the call as it read before'; 0 by the template 'total and deterministic' (their statements: YtkllpmncjffepaaTotals.lean).
  GIVEN WITH THE SEED: the statements are not yours to turn. If you find one false, say at which input.
  Laid BY PROGRAM, IN A SANDBOX (cutbox-rows.mjs): the forced cells as the released guide's own fill.sh prints them over the translation e3f53128a687c6fa… (all of the seat's roots in one cut). By AI agents, Wed Nov 11 2026. No macro, syntax, notation, axiom, sorry.
-/
import Derived.Test.YtkllpmncjffepaaChecked
import GoSem.Claim
import GoSem.ClaimJoined
import GoSem.ClaimMapViews
import Derived.JoinedTies
import Derived.KernelRfl
namespace Go.Proofs.Ytkllpmncjffepaa
/- THE CELL 'sum', in the pinned program and in every row, IS THE sha256 OF THE DUMP (.gsa) THAT YtkllpmncjffepaaProg.lean LOADS. Nothing in Lean hashes anything: it is a label: what it is worth is what the hold of that sum in a sandbox is worth. -/
noncomputable def Try.pinned : Pinned := { name := "ytkllpmncjffepaa", sum := "e3f53128a687c6fa77cf89d988d735084396f6fd4b8f6c7336effde8eb33a0a6", checked := Try.checked }
namespace Rows
def none {H : Type} : Left H := { results := [], args := [] }

/-- 'poacherlaw02.WordTells': WHATEVER THE INPUT: true; the input reads as it did. -/
def wordTellsSpec : ChangeSpec := { name := "wordTells", fn := fun _ => fun
  | [d1, d2, d3] => { results := [.lit (.bool true)], args := [d1, d2, d3] }
  | _ => none }
def wordTellsRow : OpenClaim := { program := "ytkllpmncjffepaa", sum := "e3f53128a687c6fa77cf89d988d735084396f6fd4b8f6c7336effde8eb33a0a6", func := "poacher/poacherlaw02.WordTells", spec := "wordTells", unfollowed := true, recurses := true, apart := false }
def WordTellsSaid : Prop := wordTellsRow.holds Try.pinned (OpenSpec.ofChange wordTellsSpec)

/-- ITS FALSE NEIGHBOUR: 'it returns false'. Refute it at one input. -/
def wordTellsWrong : ChangeSpec := { name := "wordTells", fn := fun _ => fun
  | [d1, d2, d3] => { results := [.lit (.bool false)], args := [d1, d2, d3] }
  | _ => none }
def WordTellsWrongFalsely : Prop := wordTellsRow.holds Try.pinned (OpenSpec.ofChange wordTellsWrong)

/-- 'poacherlaw02.WordBack': WHATEVER THE INPUT: true; the input reads as it did. -/
def wordBackSpec : ChangeSpec := { name := "wordBack", fn := fun _ => fun
  | [d1, d2] => { results := [.lit (.bool true)], args := [d1, d2] }
  | _ => none }
def wordBackRow : OpenClaim := { program := "ytkllpmncjffepaa", sum := "e3f53128a687c6fa77cf89d988d735084396f6fd4b8f6c7336effde8eb33a0a6", func := "poacher/poacherlaw02.WordBack", spec := "wordBack", unfollowed := true, recurses := true, apart := false }
def WordBackSaid : Prop := wordBackRow.holds Try.pinned (OpenSpec.ofChange wordBackSpec)

/-- ITS FALSE NEIGHBOUR: 'it returns false'. Refute it at one input. -/
def wordBackWrong : ChangeSpec := { name := "wordBack", fn := fun _ => fun
  | [d1, d2] => { results := [.lit (.bool false)], args := [d1, d2] }
  | _ => none }
def WordBackWrongFalsely : Prop := wordBackRow.holds Try.pinned (OpenSpec.ofChange wordBackWrong)

/-- 'poacherlaw02.WordBumps': WHATEVER THE INPUT: true; the input reads as it did. -/
def wordBumpsSpec : ChangeSpec := { name := "wordBumps", fn := fun _ => fun
  | [d] => { results := [.lit (.bool true)], args := [d] }
  | _ => none }
def wordBumpsRow : OpenClaim := { program := "ytkllpmncjffepaa", sum := "e3f53128a687c6fa77cf89d988d735084396f6fd4b8f6c7336effde8eb33a0a6", func := "poacher/poacherlaw02.WordBumps", spec := "wordBumps", unfollowed := true, recurses := true, apart := false }
def WordBumpsSaid : Prop := wordBumpsRow.holds Try.pinned (OpenSpec.ofChange wordBumpsSpec)

/-- ITS FALSE NEIGHBOUR: 'it returns false'. Refute it at one input. -/
def wordBumpsWrong : ChangeSpec := { name := "wordBumps", fn := fun _ => fun
  | [d] => { results := [.lit (.bool false)], args := [d] }
  | _ => none }
def WordBumpsWrongFalsely : Prop := wordBumpsRow.holds Try.pinned (OpenSpec.ofChange wordBumpsWrong)

/-- 'poacherlaw02.WordFar': WHATEVER THE INPUT: true; the input reads as it did. -/
def wordFarSpec : ChangeSpec := { name := "wordFar", fn := fun _ => fun
  | [d1, d2] => { results := [.lit (.bool true)], args := [d1, d2] }
  | _ => none }
def wordFarRow : OpenClaim := { program := "ytkllpmncjffepaa", sum := "e3f53128a687c6fa77cf89d988d735084396f6fd4b8f6c7336effde8eb33a0a6", func := "poacher/poacherlaw02.WordFar", spec := "wordFar", unfollowed := true, recurses := true, apart := false }
def WordFarSaid : Prop := wordFarRow.holds Try.pinned (OpenSpec.ofChange wordFarSpec)

/-- ITS FALSE NEIGHBOUR: 'it returns false'. Refute it at one input. -/
def wordFarWrong : ChangeSpec := { name := "wordFar", fn := fun _ => fun
  | [d1, d2] => { results := [.lit (.bool false)], args := [d1, d2] }
  | _ => none }
def WordFarWrongFalsely : Prop := wordFarRow.holds Try.pinned (OpenSpec.ofChange wordFarWrong)

/-- 'poacherlaw02.WordSet': WHATEVER THE INPUT: true; the input reads as it did. -/
def wordSetSpec : ChangeSpec := { name := "wordSet", fn := fun _ => fun
  | [d1, d2, d3] => { results := [.lit (.bool true)], args := [d1, d2, d3] }
  | _ => none }
def wordSetRow : OpenClaim := { program := "ytkllpmncjffepaa", sum := "e3f53128a687c6fa77cf89d988d735084396f6fd4b8f6c7336effde8eb33a0a6", func := "poacher/poacherlaw02.WordSet", spec := "wordSet", unfollowed := true, recurses := true, apart := false }
def WordSetSaid : Prop := wordSetRow.holds Try.pinned (OpenSpec.ofChange wordSetSpec)

/-- ITS FALSE NEIGHBOUR: 'it returns false'. Refute it at one input. -/
def wordSetWrong : ChangeSpec := { name := "wordSet", fn := fun _ => fun
  | [d1, d2, d3] => { results := [.lit (.bool false)], args := [d1, d2, d3] }
  | _ => none }
def WordSetWrongFalsely : Prop := wordSetRow.holds Try.pinned (OpenSpec.ofChange wordSetWrong)

/-- 'poacherlaw02.WordLowest': WHATEVER THE INPUT: true; the input reads as it did. -/
def wordLowestSpec : ChangeSpec := { name := "wordLowest", fn := fun _ => fun
  | [d] => { results := [.lit (.bool true)], args := [d] }
  | _ => none }
def wordLowestRow : OpenClaim := { program := "ytkllpmncjffepaa", sum := "e3f53128a687c6fa77cf89d988d735084396f6fd4b8f6c7336effde8eb33a0a6", func := "poacher/poacherlaw02.WordLowest", spec := "wordLowest", unfollowed := true, recurses := true, apart := false }
def WordLowestSaid : Prop := wordLowestRow.holds Try.pinned (OpenSpec.ofChange wordLowestSpec)

/-- ITS FALSE NEIGHBOUR: 'it returns false'. Refute it at one input. -/
def wordLowestWrong : ChangeSpec := { name := "wordLowest", fn := fun _ => fun
  | [d] => { results := [.lit (.bool false)], args := [d] }
  | _ => none }
def WordLowestWrongFalsely : Prop := wordLowestRow.holds Try.pinned (OpenSpec.ofChange wordLowestWrong)

/-- 'poacherlaw02.WordWipe': WHATEVER THE INPUT: true; the input reads as it did. -/
def wordWipeSpec : ChangeSpec := { name := "wordWipe", fn := fun _ => fun
  | [d] => { results := [.lit (.bool true)], args := [d] }
  | _ => none }
def wordWipeRow : OpenClaim := { program := "ytkllpmncjffepaa", sum := "e3f53128a687c6fa77cf89d988d735084396f6fd4b8f6c7336effde8eb33a0a6", func := "poacher/poacherlaw02.WordWipe", spec := "wordWipe", unfollowed := true, recurses := true, apart := false }
def WordWipeSaid : Prop := wordWipeRow.holds Try.pinned (OpenSpec.ofChange wordWipeSpec)

/-- ITS FALSE NEIGHBOUR: 'it returns false'. Refute it at one input. -/
def wordWipeWrong : ChangeSpec := { name := "wordWipe", fn := fun _ => fun
  | [d] => { results := [.lit (.bool false)], args := [d] }
  | _ => none }
def WordWipeWrongFalsely : Prop := wordWipeRow.holds Try.pinned (OpenSpec.ofChange wordWipeWrong)

/- THE SECOND FORM. 'bulk': how many values and letters a reading holds, each counted each time it is reached (what is shared counts as often as it is met; a slice's spare places count too). A statement '..UptoSaid' is the law's where the arguments, and the package variables that the reading takes, are together of bulk at most 1048576: NARROWER than '..Said'. Prove '..Said' where nothing that the law and all that it calls make is longer than what came in: it says more and counts as full. Else prove '..UptoSaid'. A law counts once. -/
mutual
def uptoBulk {H : Type} : DataW H → Nat
  | .lit (.string bytes) => bytes.length + 1
  | .lit _ => 1
  | .nil => 1
  | .ptr d => uptoBulk d + 1
  | .slice elems spare => uptoBulkAll elems + uptoBulkAll spare + 1
  | .agg parts => uptoBulkAll parts + 1
  | .iface _ d => uptoBulk d + 1
  | .map entries => uptoBulkEntries entries + 1
  | .held _ => 1
def uptoBulkAll {H : Type} : List (DataW H) → Nat
  | [] => 0
  | d :: r => uptoBulk d + uptoBulkAll r
def uptoBulkEntries {H : Type} : List (Lit × DataW H) → Nat
  | [] => 0
  | x :: r => uptoBulkEntry x + uptoBulkEntries r
def uptoBulkEntry {H : Type} : Lit × DataW H → Nat
  | (.string bytes, d) => bytes.length + uptoBulk d + 1
  | (_, d) => uptoBulk d + 1
 end
def uptoSmall : (H : Type) → List (DataW H) → Bool := fun _ ds => decide (uptoBulkAll ds ≤ 1048576)
def OpenSpec.upto (s : _root_.Go.ChangeSpec) : _root_.Go.OpenSpec := { _root_.Go.OpenSpec.ofChange s with cond := some uptoSmall }

/-- 'poacherlaw02.WordTells', WHERE WHAT IT READS IS OF BULK AT MOST 1048576: true; the input reads as it did. -/
def wordTellsUptoRow : OpenClaim := { program := "ytkllpmncjffepaa", sum := "e3f53128a687c6fa77cf89d988d735084396f6fd4b8f6c7336effde8eb33a0a6", func := "poacher/poacherlaw02.WordTells", spec := "wordTells", unfollowed := true, recurses := true, apart := false, narrowed := true }
def WordTellsUptoSaid : Prop := wordTellsUptoRow.holds Try.pinned (OpenSpec.upto wordTellsSpec)

/-- 'poacherlaw02.WordBack', WHERE WHAT IT READS IS OF BULK AT MOST 1048576: true; the input reads as it did. -/
def wordBackUptoRow : OpenClaim := { program := "ytkllpmncjffepaa", sum := "e3f53128a687c6fa77cf89d988d735084396f6fd4b8f6c7336effde8eb33a0a6", func := "poacher/poacherlaw02.WordBack", spec := "wordBack", unfollowed := true, recurses := true, apart := false, narrowed := true }
def WordBackUptoSaid : Prop := wordBackUptoRow.holds Try.pinned (OpenSpec.upto wordBackSpec)

/-- 'poacherlaw02.WordBumps', WHERE WHAT IT READS IS OF BULK AT MOST 1048576: true; the input reads as it did. -/
def wordBumpsUptoRow : OpenClaim := { program := "ytkllpmncjffepaa", sum := "e3f53128a687c6fa77cf89d988d735084396f6fd4b8f6c7336effde8eb33a0a6", func := "poacher/poacherlaw02.WordBumps", spec := "wordBumps", unfollowed := true, recurses := true, apart := false, narrowed := true }
def WordBumpsUptoSaid : Prop := wordBumpsUptoRow.holds Try.pinned (OpenSpec.upto wordBumpsSpec)

/-- 'poacherlaw02.WordFar', WHERE WHAT IT READS IS OF BULK AT MOST 1048576: true; the input reads as it did. -/
def wordFarUptoRow : OpenClaim := { program := "ytkllpmncjffepaa", sum := "e3f53128a687c6fa77cf89d988d735084396f6fd4b8f6c7336effde8eb33a0a6", func := "poacher/poacherlaw02.WordFar", spec := "wordFar", unfollowed := true, recurses := true, apart := false, narrowed := true }
def WordFarUptoSaid : Prop := wordFarUptoRow.holds Try.pinned (OpenSpec.upto wordFarSpec)

/-- 'poacherlaw02.WordSet', WHERE WHAT IT READS IS OF BULK AT MOST 1048576: true; the input reads as it did. -/
def wordSetUptoRow : OpenClaim := { program := "ytkllpmncjffepaa", sum := "e3f53128a687c6fa77cf89d988d735084396f6fd4b8f6c7336effde8eb33a0a6", func := "poacher/poacherlaw02.WordSet", spec := "wordSet", unfollowed := true, recurses := true, apart := false, narrowed := true }
def WordSetUptoSaid : Prop := wordSetUptoRow.holds Try.pinned (OpenSpec.upto wordSetSpec)

/-- 'poacherlaw02.WordLowest', WHERE WHAT IT READS IS OF BULK AT MOST 1048576: true; the input reads as it did. -/
def wordLowestUptoRow : OpenClaim := { program := "ytkllpmncjffepaa", sum := "e3f53128a687c6fa77cf89d988d735084396f6fd4b8f6c7336effde8eb33a0a6", func := "poacher/poacherlaw02.WordLowest", spec := "wordLowest", unfollowed := true, recurses := true, apart := false, narrowed := true }
def WordLowestUptoSaid : Prop := wordLowestUptoRow.holds Try.pinned (OpenSpec.upto wordLowestSpec)

/-- 'poacherlaw02.WordWipe', WHERE WHAT IT READS IS OF BULK AT MOST 1048576: true; the input reads as it did. -/
def wordWipeUptoRow : OpenClaim := { program := "ytkllpmncjffepaa", sum := "e3f53128a687c6fa77cf89d988d735084396f6fd4b8f6c7336effde8eb33a0a6", func := "poacher/poacherlaw02.WordWipe", spec := "wordWipe", unfollowed := true, recurses := true, apart := false, narrowed := true }
def WordWipeUptoSaid : Prop := wordWipeUptoRow.holds Try.pinned (OpenSpec.upto wordWipeSpec)

end Rows
end Go.Proofs.Ytkllpmncjffepaa
