/-
  No cell of these rows narrows 'for every input' (looked for: loops, veiled, ifaces, maps, wideKeys, modest, calm, conditions, laid).
  DERIVED. THE GIVEN ROWS OF THIS SEAT. 7 by the template 'for every input the law returns true; each argument reads behind the call as it read before'; 0 by the template 'total and deterministic' (their statements: YtajbnpjdhmeeiaaTotals.lean).
  GIVEN WITH THE SEED: the statements are not yours to turn. If you find one false, say at which input.
  Laid BY PROGRAM, IN A SANDBOX (cutbox-rows.mjs): the forced cells as the released guide's own fill.sh prints them over the translation bc372d89f752c873… (all of the seat's roots in one cut). By AI agents, Wed Nov 11 2026. No macro, syntax, notation, axiom, sorry.
-/
import Derived.Test.YtajbnpjdhmeeiaaChecked
import GoSem.Claim
import GoSem.ClaimJoined
import GoSem.ClaimMapViews
import Derived.JoinedTies
import Derived.KernelRfl
namespace Go.Proofs.Ytajbnpjdhmeeiaa
/- THE CELL 'sum', in the pinned program and in every row, IS THE sha256 OF THE DUMP (.gsa) THAT YtajbnpjdhmeeiaaProg.lean LOADS. Nothing in Lean hashes anything: it is a label: what it is worth is what the hold of that sum in a sandbox is worth. -/
noncomputable def Try.pinned : Pinned := { name := "ytajbnpjdhmeeiaa", sum := "bc372d89f752c873a579a043b2572558e83e4d46278e983ebe6987e96db1cd71", checked := Try.checked }
namespace Rows
def none {H : Type} : Left H := { results := [], args := [] }

/-- 'poacherlaw04.ForestTells': WHATEVER THE INPUT: true; the input reads as it did. -/
def forestTellsSpec : ChangeSpec := { name := "forestTells", fn := fun _ => fun
  | [d1, d2, d3] => { results := [.lit (.bool true)], args := [d1, d2, d3] }
  | _ => none }
def forestTellsRow : OpenClaim := { program := "ytajbnpjdhmeeiaa", sum := "bc372d89f752c873a579a043b2572558e83e4d46278e983ebe6987e96db1cd71", func := "poacher/poacherlaw04.ForestTells", spec := "forestTells", unfollowed := true, recurses := true, apart := false }
def ForestTellsSaid : Prop := forestTellsRow.holds Try.pinned (OpenSpec.ofChange forestTellsSpec)

/-- ITS FALSE NEIGHBOUR: 'it returns false'. Refute it at one input. -/
def forestTellsWrong : ChangeSpec := { name := "forestTells", fn := fun _ => fun
  | [d1, d2, d3] => { results := [.lit (.bool false)], args := [d1, d2, d3] }
  | _ => none }
def ForestTellsWrongFalsely : Prop := forestTellsRow.holds Try.pinned (OpenSpec.ofChange forestTellsWrong)

/-- 'poacherlaw04.ForestOnce': WHATEVER THE INPUT: true; the input reads as it did. -/
def forestOnceSpec : ChangeSpec := { name := "forestOnce", fn := fun _ => fun
  | [d1, d2] => { results := [.lit (.bool true)], args := [d1, d2] }
  | _ => none }
def forestOnceRow : OpenClaim := { program := "ytajbnpjdhmeeiaa", sum := "bc372d89f752c873a579a043b2572558e83e4d46278e983ebe6987e96db1cd71", func := "poacher/poacherlaw04.ForestOnce", spec := "forestOnce", unfollowed := true, recurses := true, apart := false }
def ForestOnceSaid : Prop := forestOnceRow.holds Try.pinned (OpenSpec.ofChange forestOnceSpec)

/-- ITS FALSE NEIGHBOUR: 'it returns false'. Refute it at one input. -/
def forestOnceWrong : ChangeSpec := { name := "forestOnce", fn := fun _ => fun
  | [d1, d2] => { results := [.lit (.bool false)], args := [d1, d2] }
  | _ => none }
def ForestOnceWrongFalsely : Prop := forestOnceRow.holds Try.pinned (OpenSpec.ofChange forestOnceWrong)

/-- 'poacherlaw04.ForestUnder': WHATEVER THE INPUT: true; the input reads as it did. -/
def forestUnderSpec : ChangeSpec := { name := "forestUnder", fn := fun _ => fun
  | [d1, d2, d3] => { results := [.lit (.bool true)], args := [d1, d2, d3] }
  | _ => none }
def forestUnderRow : OpenClaim := { program := "ytajbnpjdhmeeiaa", sum := "bc372d89f752c873a579a043b2572558e83e4d46278e983ebe6987e96db1cd71", func := "poacher/poacherlaw04.ForestUnder", spec := "forestUnder", unfollowed := true, recurses := true, apart := false }
def ForestUnderSaid : Prop := forestUnderRow.holds Try.pinned (OpenSpec.ofChange forestUnderSpec)

/-- ITS FALSE NEIGHBOUR: 'it returns false'. Refute it at one input. -/
def forestUnderWrong : ChangeSpec := { name := "forestUnder", fn := fun _ => fun
  | [d1, d2, d3] => { results := [.lit (.bool false)], args := [d1, d2, d3] }
  | _ => none }
def ForestUnderWrongFalsely : Prop := forestUnderRow.holds Try.pinned (OpenSpec.ofChange forestUnderWrong)

/-- 'poacherlaw04.ForestFewer': WHATEVER THE INPUT: true; the input reads as it did. -/
def forestFewerSpec : ChangeSpec := { name := "forestFewer", fn := fun _ => fun
  | [d] => { results := [.lit (.bool true)], args := [d] }
  | _ => none }
def forestFewerRow : OpenClaim := { program := "ytajbnpjdhmeeiaa", sum := "bc372d89f752c873a579a043b2572558e83e4d46278e983ebe6987e96db1cd71", func := "poacher/poacherlaw04.ForestFewer", spec := "forestFewer", unfollowed := true, recurses := true, apart := false }
def ForestFewerSaid : Prop := forestFewerRow.holds Try.pinned (OpenSpec.ofChange forestFewerSpec)

/-- ITS FALSE NEIGHBOUR: 'it returns false'. Refute it at one input. -/
def forestFewerWrong : ChangeSpec := { name := "forestFewer", fn := fun _ => fun
  | [d] => { results := [.lit (.bool false)], args := [d] }
  | _ => none }
def ForestFewerWrongFalsely : Prop := forestFewerRow.holds Try.pinned (OpenSpec.ofChange forestFewerWrong)

/-- 'poacherlaw04.ForestRoots': WHATEVER THE INPUT: true; the input reads as it did. -/
def forestRootsSpec : ChangeSpec := { name := "forestRoots", fn := fun _ => fun
  | [d1, d2] => { results := [.lit (.bool true)], args := [d1, d2] }
  | _ => none }
def forestRootsRow : OpenClaim := { program := "ytajbnpjdhmeeiaa", sum := "bc372d89f752c873a579a043b2572558e83e4d46278e983ebe6987e96db1cd71", func := "poacher/poacherlaw04.ForestRoots", spec := "forestRoots", unfollowed := true, recurses := true, apart := false }
def ForestRootsSaid : Prop := forestRootsRow.holds Try.pinned (OpenSpec.ofChange forestRootsSpec)

/-- ITS FALSE NEIGHBOUR: 'it returns false'. Refute it at one input. -/
def forestRootsWrong : ChangeSpec := { name := "forestRoots", fn := fun _ => fun
  | [d1, d2] => { results := [.lit (.bool false)], args := [d1, d2] }
  | _ => none }
def ForestRootsWrongFalsely : Prop := forestRootsRow.holds Try.pinned (OpenSpec.ofChange forestRootsWrong)

/-- 'poacherlaw04.ForestMore': WHATEVER THE INPUT: true; the input reads as it did. -/
def forestMoreSpec : ChangeSpec := { name := "forestMore", fn := fun _ => fun
  | [d1, d2, d3] => { results := [.lit (.bool true)], args := [d1, d2, d3] }
  | _ => none }
def forestMoreRow : OpenClaim := { program := "ytajbnpjdhmeeiaa", sum := "bc372d89f752c873a579a043b2572558e83e4d46278e983ebe6987e96db1cd71", func := "poacher/poacherlaw04.ForestMore", spec := "forestMore", unfollowed := true, recurses := true, apart := false }
def ForestMoreSaid : Prop := forestMoreRow.holds Try.pinned (OpenSpec.ofChange forestMoreSpec)

/-- ITS FALSE NEIGHBOUR: 'it returns false'. Refute it at one input. -/
def forestMoreWrong : ChangeSpec := { name := "forestMore", fn := fun _ => fun
  | [d1, d2, d3] => { results := [.lit (.bool false)], args := [d1, d2, d3] }
  | _ => none }
def ForestMoreWrongFalsely : Prop := forestMoreRow.holds Try.pinned (OpenSpec.ofChange forestMoreWrong)

/-- 'poacherlaw04.ForestSums': WHATEVER THE INPUT: true; the input reads as it did. -/
def forestSumsSpec : ChangeSpec := { name := "forestSums", fn := fun _ => fun
  | [d] => { results := [.lit (.bool true)], args := [d] }
  | _ => none }
def forestSumsRow : OpenClaim := { program := "ytajbnpjdhmeeiaa", sum := "bc372d89f752c873a579a043b2572558e83e4d46278e983ebe6987e96db1cd71", func := "poacher/poacherlaw04.ForestSums", spec := "forestSums", unfollowed := true, recurses := true, apart := false }
def ForestSumsSaid : Prop := forestSumsRow.holds Try.pinned (OpenSpec.ofChange forestSumsSpec)

/-- ITS FALSE NEIGHBOUR: 'it returns false'. Refute it at one input. -/
def forestSumsWrong : ChangeSpec := { name := "forestSums", fn := fun _ => fun
  | [d] => { results := [.lit (.bool false)], args := [d] }
  | _ => none }
def ForestSumsWrongFalsely : Prop := forestSumsRow.holds Try.pinned (OpenSpec.ofChange forestSumsWrong)

/- THE SECOND FORM. 'bulk': how many values and letters a reading holds, each counted each time it is reached (what is shared counts as often as it is met; a slice's spare places count too). A statement '..UptoSaid' is the law's where the arguments, and the package variables that the reading takes, are together of bulk at most 1048576: NARROWER than '..Said'. Prove '..Said' where nothing that the law and all that it calls make is longer than what came in: it says more and counts as full. Else prove '..UptoSaid'. A law counts once. -/
mutual
def uptoBulk {H : Type} : DataW H → Nat
  | .lit (.string bytes) => bytes.length + 1
  | .lit _ => 1
  | .nil => 1
  | .ptr d => uptoBulk d + 1
  | .slice elems spare => uptoBulkAll elems + uptoBulkAll spare + 1
  | .agg parts => uptoBulkAll parts + 1
  | .iface _ d => uptoBulk d + 1
  | .map entries => uptoBulkEntries entries + 1
  | .held _ => 1
def uptoBulkAll {H : Type} : List (DataW H) → Nat
  | [] => 0
  | d :: r => uptoBulk d + uptoBulkAll r
def uptoBulkEntries {H : Type} : List (Lit × DataW H) → Nat
  | [] => 0
  | x :: r => uptoBulkEntry x + uptoBulkEntries r
def uptoBulkEntry {H : Type} : Lit × DataW H → Nat
  | (.string bytes, d) => bytes.length + uptoBulk d + 1
  | (_, d) => uptoBulk d + 1
 end
def uptoSmall : (H : Type) → List (DataW H) → Bool := fun _ ds => decide (uptoBulkAll ds ≤ 1048576)
def OpenSpec.upto (s : _root_.Go.ChangeSpec) : _root_.Go.OpenSpec := { _root_.Go.OpenSpec.ofChange s with cond := some uptoSmall }

/-- 'poacherlaw04.ForestTells', WHERE WHAT IT READS IS OF BULK AT MOST 1048576: true; the input reads as it did. -/
def forestTellsUptoRow : OpenClaim := { program := "ytajbnpjdhmeeiaa", sum := "bc372d89f752c873a579a043b2572558e83e4d46278e983ebe6987e96db1cd71", func := "poacher/poacherlaw04.ForestTells", spec := "forestTells", unfollowed := true, recurses := true, apart := false, narrowed := true }
def ForestTellsUptoSaid : Prop := forestTellsUptoRow.holds Try.pinned (OpenSpec.upto forestTellsSpec)

/-- 'poacherlaw04.ForestOnce', WHERE WHAT IT READS IS OF BULK AT MOST 1048576: true; the input reads as it did. -/
def forestOnceUptoRow : OpenClaim := { program := "ytajbnpjdhmeeiaa", sum := "bc372d89f752c873a579a043b2572558e83e4d46278e983ebe6987e96db1cd71", func := "poacher/poacherlaw04.ForestOnce", spec := "forestOnce", unfollowed := true, recurses := true, apart := false, narrowed := true }
def ForestOnceUptoSaid : Prop := forestOnceUptoRow.holds Try.pinned (OpenSpec.upto forestOnceSpec)

/-- 'poacherlaw04.ForestUnder', WHERE WHAT IT READS IS OF BULK AT MOST 1048576: true; the input reads as it did. -/
def forestUnderUptoRow : OpenClaim := { program := "ytajbnpjdhmeeiaa", sum := "bc372d89f752c873a579a043b2572558e83e4d46278e983ebe6987e96db1cd71", func := "poacher/poacherlaw04.ForestUnder", spec := "forestUnder", unfollowed := true, recurses := true, apart := false, narrowed := true }
def ForestUnderUptoSaid : Prop := forestUnderUptoRow.holds Try.pinned (OpenSpec.upto forestUnderSpec)

/-- 'poacherlaw04.ForestFewer', WHERE WHAT IT READS IS OF BULK AT MOST 1048576: true; the input reads as it did. -/
def forestFewerUptoRow : OpenClaim := { program := "ytajbnpjdhmeeiaa", sum := "bc372d89f752c873a579a043b2572558e83e4d46278e983ebe6987e96db1cd71", func := "poacher/poacherlaw04.ForestFewer", spec := "forestFewer", unfollowed := true, recurses := true, apart := false, narrowed := true }
def ForestFewerUptoSaid : Prop := forestFewerUptoRow.holds Try.pinned (OpenSpec.upto forestFewerSpec)

/-- 'poacherlaw04.ForestRoots', WHERE WHAT IT READS IS OF BULK AT MOST 1048576: true; the input reads as it did. -/
def forestRootsUptoRow : OpenClaim := { program := "ytajbnpjdhmeeiaa", sum := "bc372d89f752c873a579a043b2572558e83e4d46278e983ebe6987e96db1cd71", func := "poacher/poacherlaw04.ForestRoots", spec := "forestRoots", unfollowed := true, recurses := true, apart := false, narrowed := true }
def ForestRootsUptoSaid : Prop := forestRootsUptoRow.holds Try.pinned (OpenSpec.upto forestRootsSpec)

/-- 'poacherlaw04.ForestMore', WHERE WHAT IT READS IS OF BULK AT MOST 1048576: true; the input reads as it did. -/
def forestMoreUptoRow : OpenClaim := { program := "ytajbnpjdhmeeiaa", sum := "bc372d89f752c873a579a043b2572558e83e4d46278e983ebe6987e96db1cd71", func := "poacher/poacherlaw04.ForestMore", spec := "forestMore", unfollowed := true, recurses := true, apart := false, narrowed := true }
def ForestMoreUptoSaid : Prop := forestMoreUptoRow.holds Try.pinned (OpenSpec.upto forestMoreSpec)

/-- 'poacherlaw04.ForestSums', WHERE WHAT IT READS IS OF BULK AT MOST 1048576: true; the input reads as it did. -/
def forestSumsUptoRow : OpenClaim := { program := "ytajbnpjdhmeeiaa", sum := "bc372d89f752c873a579a043b2572558e83e4d46278e983ebe6987e96db1cd71", func := "poacher/poacherlaw04.ForestSums", spec := "forestSums", unfollowed := true, recurses := true, apart := false, narrowed := true }
def ForestSumsUptoSaid : Prop := forestSumsUptoRow.holds Try.pinned (OpenSpec.upto forestSumsSpec)

end Rows
end Go.Proofs.Ytajbnpjdhmeeiaa
