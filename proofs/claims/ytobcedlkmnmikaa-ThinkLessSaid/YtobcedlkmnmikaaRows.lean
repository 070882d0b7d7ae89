/-
  No cell of these rows narrows 'for every input' (looked for: loops, veiled, ifaces, maps, wideKeys, modest, calm, conditions, laid).
  DERIVED. THE GIVEN ROWS OF THIS SEAT. 6 by the template 'for every input the law returns true; each argument reads behind the call as it read before'; 0 by the template 'total and deterministic' (their statements: YtobcedlkmnmikaaTotals.lean).
  GIVEN WITH THE SEED: the statements are not yours to turn. If you find one false, say at which input.
  Laid BY PROGRAM, IN A SANDBOX (cutbox-rows.mjs): the forced cells as the released guide's own fill.sh prints them over the translation 861ffb9071e530d7… (all of the seat's roots in one cut). By AI agents, Wed Nov 11 2026. No macro, syntax, notation, axiom, sorry.
-/
import Derived.Test.YtobcedlkmnmikaaChecked
import GoSem.Claim
import GoSem.ClaimJoined
import GoSem.ClaimMapViews
import Derived.JoinedTies
import Derived.KernelRfl
namespace Go.Proofs.Ytobcedlkmnmikaa
/- THE CELL 'sum', in the pinned program and in every row, IS THE sha256 OF THE DUMP (.gsa) THAT YtobcedlkmnmikaaProg.lean LOADS. Nothing in Lean hashes anything: it is a label: what it is worth is what the hold of that sum in a sandbox is worth. -/
noncomputable def Try.pinned : Pinned := { name := "ytobcedlkmnmikaa", sum := "861ffb9071e530d7dd2cf792b8c393f95d6762d25ba1f75b23384fd7a19f0610", checked := Try.checked }
namespace Rows
def none {H : Type} : Left H := { results := [], args := [] }

/-- 'poacherlaw17.ThinkTells': WHATEVER THE INPUT: true; the input reads as it did. -/
def thinkTellsSpec : ChangeSpec := { name := "thinkTells", fn := fun _ => fun
  | [d1, d2, d3, d4] => { results := [.lit (.bool true)], args := [d1, d2, d3, d4] }
  | _ => none }
def thinkTellsRow : OpenClaim := { program := "ytobcedlkmnmikaa", sum := "861ffb9071e530d7dd2cf792b8c393f95d6762d25ba1f75b23384fd7a19f0610", func := "poacher/poacherlaw17.ThinkTells", spec := "thinkTells", unfollowed := true, recurses := true, apart := false }
def ThinkTellsSaid : Prop := thinkTellsRow.holds Try.pinned (OpenSpec.ofChange thinkTellsSpec)

/-- ITS FALSE NEIGHBOUR: 'it returns false'. Refute it at one input. -/
def thinkTellsWrong : ChangeSpec := { name := "thinkTells", fn := fun _ => fun
  | [d1, d2, d3, d4] => { results := [.lit (.bool false)], args := [d1, d2, d3, d4] }
  | _ => none }
def ThinkTellsWrongFalsely : Prop := thinkTellsRow.holds Try.pinned (OpenSpec.ofChange thinkTellsWrong)

/-- 'poacherlaw17.ThinkLess': WHATEVER THE INPUT: true; the input reads as it did. -/
def thinkLessSpec : ChangeSpec := { name := "thinkLess", fn := fun _ => fun
  | [d1, d2] => { results := [.lit (.bool true)], args := [d1, d2] }
  | _ => none }
def thinkLessRow : OpenClaim := { program := "ytobcedlkmnmikaa", sum := "861ffb9071e530d7dd2cf792b8c393f95d6762d25ba1f75b23384fd7a19f0610", func := "poacher/poacherlaw17.ThinkLess", spec := "thinkLess", unfollowed := true, recurses := true, apart := false }
def ThinkLessSaid : Prop := thinkLessRow.holds Try.pinned (OpenSpec.ofChange thinkLessSpec)

/-- ITS FALSE NEIGHBOUR: 'it returns false'. Refute it at one input. -/
def thinkLessWrong : ChangeSpec := { name := "thinkLess", fn := fun _ => fun
  | [d1, d2] => { results := [.lit (.bool false)], args := [d1, d2] }
  | _ => none }
def ThinkLessWrongFalsely : Prop := thinkLessRow.holds Try.pinned (OpenSpec.ofChange thinkLessWrong)

/-- 'poacherlaw17.ThinkSpawns': WHATEVER THE INPUT: true; the input reads as it did. -/
def thinkSpawnsSpec : ChangeSpec := { name := "thinkSpawns", fn := fun _ => fun
  | [d1, d2, d3] => { results := [.lit (.bool true)], args := [d1, d2, d3] }
  | _ => none }
def thinkSpawnsRow : OpenClaim := { program := "ytobcedlkmnmikaa", sum := "861ffb9071e530d7dd2cf792b8c393f95d6762d25ba1f75b23384fd7a19f0610", func := "poacher/poacherlaw17.ThinkSpawns", spec := "thinkSpawns", unfollowed := true, recurses := true, apart := false }
def ThinkSpawnsSaid : Prop := thinkSpawnsRow.holds Try.pinned (OpenSpec.ofChange thinkSpawnsSpec)

/-- ITS FALSE NEIGHBOUR: 'it returns false'. Refute it at one input. -/
def thinkSpawnsWrong : ChangeSpec := { name := "thinkSpawns", fn := fun _ => fun
  | [d1, d2, d3] => { results := [.lit (.bool false)], args := [d1, d2, d3] }
  | _ => none }
def ThinkSpawnsWrongFalsely : Prop := thinkSpawnsRow.holds Try.pinned (OpenSpec.ofChange thinkSpawnsWrong)

/-- 'poacherlaw17.ThinkStart': WHATEVER THE INPUT: true; the input reads as it did. -/
def thinkStartSpec : ChangeSpec := { name := "thinkStart", fn := fun _ => fun
  | [d1, d2, d3, d4] => { results := [.lit (.bool true)], args := [d1, d2, d3, d4] }
  | _ => none }
def thinkStartRow : OpenClaim := { program := "ytobcedlkmnmikaa", sum := "861ffb9071e530d7dd2cf792b8c393f95d6762d25ba1f75b23384fd7a19f0610", func := "poacher/poacherlaw17.ThinkStart", spec := "thinkStart", unfollowed := true, recurses := true, apart := false }
def ThinkStartSaid : Prop := thinkStartRow.holds Try.pinned (OpenSpec.ofChange thinkStartSpec)

/-- ITS FALSE NEIGHBOUR: 'it returns false'. Refute it at one input. -/
def thinkStartWrong : ChangeSpec := { name := "thinkStart", fn := fun _ => fun
  | [d1, d2, d3, d4] => { results := [.lit (.bool false)], args := [d1, d2, d3, d4] }
  | _ => none }
def ThinkStartWrongFalsely : Prop := thinkStartRow.holds Try.pinned (OpenSpec.ofChange thinkStartWrong)

/-- 'poacherlaw17.ThinkLast': WHATEVER THE INPUT: true; the input reads as it did. -/
def thinkLastSpec : ChangeSpec := { name := "thinkLast", fn := fun _ => fun
  | [d1, d2] => { results := [.lit (.bool true)], args := [d1, d2] }
  | _ => none }
def thinkLastRow : OpenClaim := { program := "ytobcedlkmnmikaa", sum := "861ffb9071e530d7dd2cf792b8c393f95d6762d25ba1f75b23384fd7a19f0610", func := "poacher/poacherlaw17.ThinkLast", spec := "thinkLast", unfollowed := true, recurses := true, apart := false }
def ThinkLastSaid : Prop := thinkLastRow.holds Try.pinned (OpenSpec.ofChange thinkLastSpec)

/-- ITS FALSE NEIGHBOUR: 'it returns false'. Refute it at one input. -/
def thinkLastWrong : ChangeSpec := { name := "thinkLast", fn := fun _ => fun
  | [d1, d2] => { results := [.lit (.bool false)], args := [d1, d2] }
  | _ => none }
def ThinkLastWrongFalsely : Prop := thinkLastRow.holds Try.pinned (OpenSpec.ofChange thinkLastWrong)

/-- 'poacherlaw17.ThinkNone': WHATEVER THE INPUT: true; the input reads as it did. -/
def thinkNoneSpec : ChangeSpec := { name := "thinkNone", fn := fun _ => fun
  | [d1, d2, d3] => { results := [.lit (.bool true)], args := [d1, d2, d3] }
  | _ => none }
def thinkNoneRow : OpenClaim := { program := "ytobcedlkmnmikaa", sum := "861ffb9071e530d7dd2cf792b8c393f95d6762d25ba1f75b23384fd7a19f0610", func := "poacher/poacherlaw17.ThinkNone", spec := "thinkNone", unfollowed := true, recurses := true, apart := false }
def ThinkNoneSaid : Prop := thinkNoneRow.holds Try.pinned (OpenSpec.ofChange thinkNoneSpec)

/-- ITS FALSE NEIGHBOUR: 'it returns false'. Refute it at one input. -/
def thinkNoneWrong : ChangeSpec := { name := "thinkNone", fn := fun _ => fun
  | [d1, d2, d3] => { results := [.lit (.bool false)], args := [d1, d2, d3] }
  | _ => none }
def ThinkNoneWrongFalsely : Prop := thinkNoneRow.holds Try.pinned (OpenSpec.ofChange thinkNoneWrong)

/- THE SECOND FORM. 'bulk': how many values and letters a reading holds, each counted each time it is reached (what is shared counts as often as it is met; a slice's spare places count too). A statement '..UptoSaid' is the law's where the arguments, and the package variables that the reading takes, are together of bulk at most 1048576: NARROWER than '..Said'. Prove '..Said' where nothing that the law and all that it calls make is longer than what came in: it says more and counts as full. Else prove '..UptoSaid'. A law counts once. -/
mutual
def uptoBulk {H : Type} : DataW H → Nat
  | .lit (.string bytes) => bytes.length + 1
  | .lit _ => 1
  | .nil => 1
  | .ptr d => uptoBulk d + 1
  | .slice elems spare => uptoBulkAll elems + uptoBulkAll spare + 1
  | .agg parts => uptoBulkAll parts + 1
  | .iface _ d => uptoBulk d + 1
  | .map entries => uptoBulkEntries entries + 1
  | .held _ => 1
def uptoBulkAll {H : Type} : List (DataW H) → Nat
  | [] => 0
  | d :: r => uptoBulk d + uptoBulkAll r
def uptoBulkEntries {H : Type} : List (Lit × DataW H) → Nat
  | [] => 0
  | x :: r => uptoBulkEntry x + uptoBulkEntries r
def uptoBulkEntry {H : Type} : Lit × DataW H → Nat
  | (.string bytes, d) => bytes.length + uptoBulk d + 1
  | (_, d) => uptoBulk d + 1
 end
def uptoSmall : (H : Type) → List (DataW H) → Bool := fun _ ds => decide (uptoBulkAll ds ≤ 1048576)
def OpenSpec.upto (s : _root_.Go.ChangeSpec) : _root_.Go.OpenSpec := { _root_.Go.OpenSpec.ofChange s with cond := some uptoSmall }

/-- 'poacherlaw17.ThinkTells', WHERE WHAT IT READS IS OF BULK AT MOST 1048576: true; the input reads as it did. -/
def thinkTellsUptoRow : OpenClaim := { program := "ytobcedlkmnmikaa", sum := "861ffb9071e530d7dd2cf792b8c393f95d6762d25ba1f75b23384fd7a19f0610", func := "poacher/poacherlaw17.ThinkTells", spec := "thinkTells", unfollowed := true, recurses := true, apart := false, narrowed := true }
def ThinkTellsUptoSaid : Prop := thinkTellsUptoRow.holds Try.pinned (OpenSpec.upto thinkTellsSpec)

/-- 'poacherlaw17.ThinkLess', WHERE WHAT IT READS IS OF BULK AT MOST 1048576: true; the input reads as it did. -/
def thinkLessUptoRow : OpenClaim := { program := "ytobcedlkmnmikaa", sum := "861ffb9071e530d7dd2cf792b8c393f95d6762d25ba1f75b23384fd7a19f0610", func := "poacher/poacherlaw17.ThinkLess", spec := "thinkLess", unfollowed := true, recurses := true, apart := false, narrowed := true }
def ThinkLessUptoSaid : Prop := thinkLessUptoRow.holds Try.pinned (OpenSpec.upto thinkLessSpec)

/-- 'poacherlaw17.ThinkSpawns', WHERE WHAT IT READS IS OF BULK AT MOST 1048576: true; the input reads as it did. -/
def thinkSpawnsUptoRow : OpenClaim := { program := "ytobcedlkmnmikaa", sum := "861ffb9071e530d7dd2cf792b8c393f95d6762d25ba1f75b23384fd7a19f0610", func := "poacher/poacherlaw17.ThinkSpawns", spec := "thinkSpawns", unfollowed := true, recurses := true, apart := false, narrowed := true }
def ThinkSpawnsUptoSaid : Prop := thinkSpawnsUptoRow.holds Try.pinned (OpenSpec.upto thinkSpawnsSpec)

/-- 'poacherlaw17.ThinkStart', WHERE WHAT IT READS IS OF BULK AT MOST 1048576: true; the input reads as it did. -/
def thinkStartUptoRow : OpenClaim := { program := "ytobcedlkmnmikaa", sum := "861ffb9071e530d7dd2cf792b8c393f95d6762d25ba1f75b23384fd7a19f0610", func := "poacher/poacherlaw17.ThinkStart", spec := "thinkStart", unfollowed := true, recurses := true, apart := false, narrowed := true }
def ThinkStartUptoSaid : Prop := thinkStartUptoRow.holds Try.pinned (OpenSpec.upto thinkStartSpec)

/-- 'poacherlaw17.ThinkLast', WHERE WHAT IT READS IS OF BULK AT MOST 1048576: true; the input reads as it did. -/
def thinkLastUptoRow : OpenClaim := { program := "ytobcedlkmnmikaa", sum := "861ffb9071e530d7dd2cf792b8c393f95d6762d25ba1f75b23384fd7a19f0610", func := "poacher/poacherlaw17.ThinkLast", spec := "thinkLast", unfollowed := true, recurses := true, apart := false, narrowed := true }
def ThinkLastUptoSaid : Prop := thinkLastUptoRow.holds Try.pinned (OpenSpec.upto thinkLastSpec)

/-- 'poacherlaw17.ThinkNone', WHERE WHAT IT READS IS OF BULK AT MOST 1048576: true; the input reads as it did. -/
def thinkNoneUptoRow : OpenClaim := { program := "ytobcedlkmnmikaa", sum := "861ffb9071e530d7dd2cf792b8c393f95d6762d25ba1f75b23384fd7a19f0610", func := "poacher/poacherlaw17.ThinkNone", spec := "thinkNone", unfollowed := true, recurses := true, apart := false, narrowed := true }
def ThinkNoneUptoSaid : Prop := thinkNoneUptoRow.holds Try.pinned (OpenSpec.upto thinkNoneSpec)

end Rows
end Go.Proofs.Ytobcedlkmnmikaa
