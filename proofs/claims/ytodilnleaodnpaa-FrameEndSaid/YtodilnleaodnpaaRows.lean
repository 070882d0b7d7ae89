/-
  No cell of these rows narrows 'for every input' (looked for: loops, veiled, ifaces, maps, wideKeys, modest, calm, conditions, laid).
  DERIVED. THE GIVEN ROWS OF THIS SEAT. 6 by the template 'for every input the law returns true; each argument reads behind the call as it read before'; 0 by the template 'total and deterministic' (their statements: YtodilnleaodnpaaTotals.lean).
  GIVEN WITH THE SEED: the statements are not yours to turn. If you find one false, say at which input.
  Laid BY PROGRAM, IN A SANDBOX (cutbox-rows.mjs): the forced cells as the released guide's own fill.sh prints them over the translation abe9324643e4cd06… (all of the seat's roots in one cut). By AI agents, Wed Nov 11 2026. No macro, syntax, notation, axiom, sorry.
-/
import Derived.Test.YtodilnleaodnpaaChecked
import GoSem.Claim
import GoSem.ClaimJoined
import GoSem.ClaimMapViews
import Derived.JoinedTies
import Derived.KernelRfl
namespace Go.Proofs.Ytodilnleaodnpaa
/- THE CELL 'sum', in the pinned program and in every row, IS THE sha256 OF THE DUMP (.gsa) THAT YtodilnleaodnpaaProg.lean LOADS. Nothing in Lean hashes anything: it is a label: what it is worth is what the hold of that sum in a sandbox is worth. -/
noncomputable def Try.pinned : Pinned := { name := "ytodilnleaodnpaa", sum := "abe9324643e4cd06b585ccc350dc5d5333c8365d0acbbdb1e5ff32a673520afd", checked := Try.checked }
namespace Rows
def none {H : Type} : Left H := { results := [], args := [] }

/-- 'poacherlaw06.FrameTells': WHATEVER THE INPUT: true; the input reads as it did. -/
def frameTellsSpec : ChangeSpec := { name := "frameTells", fn := fun _ => fun
  | [d1, d2, d3, d4] => { results := [.lit (.bool true)], args := [d1, d2, d3, d4] }
  | _ => none }
def frameTellsRow : OpenClaim := { program := "ytodilnleaodnpaa", sum := "abe9324643e4cd06b585ccc350dc5d5333c8365d0acbbdb1e5ff32a673520afd", func := "poacher/poacherlaw06.FrameTells", spec := "frameTells", unfollowed := true, recurses := true, apart := false }
def FrameTellsSaid : Prop := frameTellsRow.holds Try.pinned (OpenSpec.ofChange frameTellsSpec)

/-- ITS FALSE NEIGHBOUR: 'it returns false'. Refute it at one input. -/
def frameTellsWrong : ChangeSpec := { name := "frameTells", fn := fun _ => fun
  | [d1, d2, d3, d4] => { results := [.lit (.bool false)], args := [d1, d2, d3, d4] }
  | _ => none }
def FrameTellsWrongFalsely : Prop := frameTellsRow.holds Try.pinned (OpenSpec.ofChange frameTellsWrong)

/-- 'poacherlaw06.FrameStack': WHATEVER THE INPUT: true; the input reads as it did. -/
def frameStackSpec : ChangeSpec := { name := "frameStack", fn := fun _ => fun
  | [d1, d2, d3] => { results := [.lit (.bool true)], args := [d1, d2, d3] }
  | _ => none }
def frameStackRow : OpenClaim := { program := "ytodilnleaodnpaa", sum := "abe9324643e4cd06b585ccc350dc5d5333c8365d0acbbdb1e5ff32a673520afd", func := "poacher/poacherlaw06.FrameStack", spec := "frameStack", unfollowed := true, recurses := true, apart := false }
def FrameStackSaid : Prop := frameStackRow.holds Try.pinned (OpenSpec.ofChange frameStackSpec)

/-- ITS FALSE NEIGHBOUR: 'it returns false'. Refute it at one input. -/
def frameStackWrong : ChangeSpec := { name := "frameStack", fn := fun _ => fun
  | [d1, d2, d3] => { results := [.lit (.bool false)], args := [d1, d2, d3] }
  | _ => none }
def FrameStackWrongFalsely : Prop := frameStackRow.holds Try.pinned (OpenSpec.ofChange frameStackWrong)

/-- 'poacherlaw06.FrameOver': WHATEVER THE INPUT: true; the input reads as it did. -/
def frameOverSpec : ChangeSpec := { name := "frameOver", fn := fun _ => fun
  | [d1, d2, d3] => { results := [.lit (.bool true)], args := [d1, d2, d3] }
  | _ => none }
def frameOverRow : OpenClaim := { program := "ytodilnleaodnpaa", sum := "abe9324643e4cd06b585ccc350dc5d5333c8365d0acbbdb1e5ff32a673520afd", func := "poacher/poacherlaw06.FrameOver", spec := "frameOver", unfollowed := true, recurses := true, apart := false }
def FrameOverSaid : Prop := frameOverRow.holds Try.pinned (OpenSpec.ofChange frameOverSpec)

/-- ITS FALSE NEIGHBOUR: 'it returns false'. Refute it at one input. -/
def frameOverWrong : ChangeSpec := { name := "frameOver", fn := fun _ => fun
  | [d1, d2, d3] => { results := [.lit (.bool false)], args := [d1, d2, d3] }
  | _ => none }
def FrameOverWrongFalsely : Prop := frameOverRow.holds Try.pinned (OpenSpec.ofChange frameOverWrong)

/-- 'poacherlaw06.FrameRoom': WHATEVER THE INPUT: true; the input reads as it did. -/
def frameRoomSpec : ChangeSpec := { name := "frameRoom", fn := fun _ => fun
  | [d1, d2, d3, d4] => { results := [.lit (.bool true)], args := [d1, d2, d3, d4] }
  | _ => none }
def frameRoomRow : OpenClaim := { program := "ytodilnleaodnpaa", sum := "abe9324643e4cd06b585ccc350dc5d5333c8365d0acbbdb1e5ff32a673520afd", func := "poacher/poacherlaw06.FrameRoom", spec := "frameRoom", unfollowed := true, recurses := true, apart := false }
def FrameRoomSaid : Prop := frameRoomRow.holds Try.pinned (OpenSpec.ofChange frameRoomSpec)

/-- ITS FALSE NEIGHBOUR: 'it returns false'. Refute it at one input. -/
def frameRoomWrong : ChangeSpec := { name := "frameRoom", fn := fun _ => fun
  | [d1, d2, d3, d4] => { results := [.lit (.bool false)], args := [d1, d2, d3, d4] }
  | _ => none }
def FrameRoomWrongFalsely : Prop := frameRoomRow.holds Try.pinned (OpenSpec.ofChange frameRoomWrong)

/-- 'poacherlaw06.FrameEnd': WHATEVER THE INPUT: true; the input reads as it did. -/
def frameEndSpec : ChangeSpec := { name := "frameEnd", fn := fun _ => fun
  | [d1, d2, d3] => { results := [.lit (.bool true)], args := [d1, d2, d3] }
  | _ => none }
def frameEndRow : OpenClaim := { program := "ytodilnleaodnpaa", sum := "abe9324643e4cd06b585ccc350dc5d5333c8365d0acbbdb1e5ff32a673520afd", func := "poacher/poacherlaw06.FrameEnd", spec := "frameEnd", unfollowed := true, recurses := true, apart := false }
def FrameEndSaid : Prop := frameEndRow.holds Try.pinned (OpenSpec.ofChange frameEndSpec)

/-- ITS FALSE NEIGHBOUR: 'it returns false'. Refute it at one input. -/
def frameEndWrong : ChangeSpec := { name := "frameEnd", fn := fun _ => fun
  | [d1, d2, d3] => { results := [.lit (.bool false)], args := [d1, d2, d3] }
  | _ => none }
def FrameEndWrongFalsely : Prop := frameEndRow.holds Try.pinned (OpenSpec.ofChange frameEndWrong)

/-- 'poacherlaw06.FrameEnds': WHATEVER THE INPUT: true; the input reads as it did. -/
def frameEndsSpec : ChangeSpec := { name := "frameEnds", fn := fun _ => fun
  | [d] => { results := [.lit (.bool true)], args := [d] }
  | _ => none }
def frameEndsRow : OpenClaim := { program := "ytodilnleaodnpaa", sum := "abe9324643e4cd06b585ccc350dc5d5333c8365d0acbbdb1e5ff32a673520afd", func := "poacher/poacherlaw06.FrameEnds", spec := "frameEnds", unfollowed := true, recurses := true, apart := false }
def FrameEndsSaid : Prop := frameEndsRow.holds Try.pinned (OpenSpec.ofChange frameEndsSpec)

/-- ITS FALSE NEIGHBOUR: 'it returns false'. Refute it at one input. -/
def frameEndsWrong : ChangeSpec := { name := "frameEnds", fn := fun _ => fun
  | [d] => { results := [.lit (.bool false)], args := [d] }
  | _ => none }
def FrameEndsWrongFalsely : Prop := frameEndsRow.holds Try.pinned (OpenSpec.ofChange frameEndsWrong)

/- THE SECOND FORM. 'bulk': how many values and letters a reading holds, each counted each time it is reached (what is shared counts as often as it is met; a slice's spare places count too). A statement '..UptoSaid' is the law's where the arguments, and the package variables that the reading takes, are together of bulk at most 1048576: NARROWER than '..Said'. Prove '..Said' where nothing that the law and all that it calls make is longer than what came in: it says more and counts as full. Else prove '..UptoSaid'. A law counts once. -/
mutual
def uptoBulk {H : Type} : DataW H → Nat
  | .lit (.string bytes) => bytes.length + 1
  | .lit _ => 1
  | .nil => 1
  | .ptr d => uptoBulk d + 1
  | .slice elems spare => uptoBulkAll elems + uptoBulkAll spare + 1
  | .agg parts => uptoBulkAll parts + 1
  | .iface _ d => uptoBulk d + 1
  | .map entries => uptoBulkEntries entries + 1
  | .held _ => 1
def uptoBulkAll {H : Type} : List (DataW H) → Nat
  | [] => 0
  | d :: r => uptoBulk d + uptoBulkAll r
def uptoBulkEntries {H : Type} : List (Lit × DataW H) → Nat
  | [] => 0
  | x :: r => uptoBulkEntry x + uptoBulkEntries r
def uptoBulkEntry {H : Type} : Lit × DataW H → Nat
  | (.string bytes, d) => bytes.length + uptoBulk d + 1
  | (_, d) => uptoBulk d + 1
 end
def uptoSmall : (H : Type) → List (DataW H) → Bool := fun _ ds => decide (uptoBulkAll ds ≤ 1048576)
def OpenSpec.upto (s : _root_.Go.ChangeSpec) : _root_.Go.OpenSpec := { _root_.Go.OpenSpec.ofChange s with cond := some uptoSmall }

/-- 'poacherlaw06.FrameTells', WHERE WHAT IT READS IS OF BULK AT MOST 1048576: true; the input reads as it did. -/
def frameTellsUptoRow : OpenClaim := { program := "ytodilnleaodnpaa", sum := "abe9324643e4cd06b585ccc350dc5d5333c8365d0acbbdb1e5ff32a673520afd", func := "poacher/poacherlaw06.FrameTells", spec := "frameTells", unfollowed := true, recurses := true, apart := false, narrowed := true }
def FrameTellsUptoSaid : Prop := frameTellsUptoRow.holds Try.pinned (OpenSpec.upto frameTellsSpec)

/-- 'poacherlaw06.FrameStack', WHERE WHAT IT READS IS OF BULK AT MOST 1048576: true; the input reads as it did. -/
def frameStackUptoRow : OpenClaim := { program := "ytodilnleaodnpaa", sum := "abe9324643e4cd06b585ccc350dc5d5333c8365d0acbbdb1e5ff32a673520afd", func := "poacher/poacherlaw06.FrameStack", spec := "frameStack", unfollowed := true, recurses := true, apart := false, narrowed := true }
def FrameStackUptoSaid : Prop := frameStackUptoRow.holds Try.pinned (OpenSpec.upto frameStackSpec)

/-- 'poacherlaw06.FrameOver', WHERE WHAT IT READS IS OF BULK AT MOST 1048576: true; the input reads as it did. -/
def frameOverUptoRow : OpenClaim := { program := "ytodilnleaodnpaa", sum := "abe9324643e4cd06b585ccc350dc5d5333c8365d0acbbdb1e5ff32a673520afd", func := "poacher/poacherlaw06.FrameOver", spec := "frameOver", unfollowed := true, recurses := true, apart := false, narrowed := true }
def FrameOverUptoSaid : Prop := frameOverUptoRow.holds Try.pinned (OpenSpec.upto frameOverSpec)

/-- 'poacherlaw06.FrameRoom', WHERE WHAT IT READS IS OF BULK AT MOST 1048576: true; the input reads as it did. -/
def frameRoomUptoRow : OpenClaim := { program := "ytodilnleaodnpaa", sum := "abe9324643e4cd06b585ccc350dc5d5333c8365d0acbbdb1e5ff32a673520afd", func := "poacher/poacherlaw06.FrameRoom", spec := "frameRoom", unfollowed := true, recurses := true, apart := false, narrowed := true }
def FrameRoomUptoSaid : Prop := frameRoomUptoRow.holds Try.pinned (OpenSpec.upto frameRoomSpec)

/-- 'poacherlaw06.FrameEnd', WHERE WHAT IT READS IS OF BULK AT MOST 1048576: true; the input reads as it did. -/
def frameEndUptoRow : OpenClaim := { program := "ytodilnleaodnpaa", sum := "abe9324643e4cd06b585ccc350dc5d5333c8365d0acbbdb1e5ff32a673520afd", func := "poacher/poacherlaw06.FrameEnd", spec := "frameEnd", unfollowed := true, recurses := true, apart := false, narrowed := true }
def FrameEndUptoSaid : Prop := frameEndUptoRow.holds Try.pinned (OpenSpec.upto frameEndSpec)

/-- 'poacherlaw06.FrameEnds', WHERE WHAT IT READS IS OF BULK AT MOST 1048576: true; the input reads as it did. -/
def frameEndsUptoRow : OpenClaim := { program := "ytodilnleaodnpaa", sum := "abe9324643e4cd06b585ccc350dc5d5333c8365d0acbbdb1e5ff32a673520afd", func := "poacher/poacherlaw06.FrameEnds", spec := "frameEnds", unfollowed := true, recurses := true, apart := false, narrowed := true }
def FrameEndsUptoSaid : Prop := frameEndsUptoRow.holds Try.pinned (OpenSpec.upto frameEndsSpec)

end Rows
end Go.Proofs.Ytodilnleaodnpaa
