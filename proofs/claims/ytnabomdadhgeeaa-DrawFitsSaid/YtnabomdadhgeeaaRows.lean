/-
  No cell of these rows narrows 'for every input' (looked for: loops, veiled, ifaces, maps, wideKeys, modest, calm, conditions, laid).
  DERIVED. THE GIVEN ROWS OF THIS SEAT. 7 by the template 'for every input the law returns true; each argument reads behind the call as it read before'; 0 by the template 'total and deterministic' (their statements: YtnabomdadhgeeaaTotals.lean).
  GIVEN WITH THE SEED: the statements are not yours to turn. If you find one false, say at which input.
  Laid BY PROGRAM, IN A SANDBOX (cutbox-rows.mjs): the forced cells as the released guide's own fill.sh prints them over the translation f0b95e2178e5f46a… (all of the seat's roots in one cut). By AI agents, Wed Nov 11 2026. No macro, syntax, notation, axiom, sorry.
-/
import Derived.Test.YtnabomdadhgeeaaChecked
import GoSem.Claim
import GoSem.ClaimJoined
import GoSem.ClaimMapViews
import Derived.JoinedTies
import Derived.KernelRfl
namespace Go.Proofs.Ytnabomdadhgeeaa
/- THE CELL 'sum', in the pinned program and in every row, IS THE sha256 OF THE DUMP (.gsa) THAT YtnabomdadhgeeaaProg.lean LOADS. Nothing in Lean hashes anything: it is a label: what it is worth is what the hold of that sum in a sandbox is worth. -/
noncomputable def Try.pinned : Pinned := { name := "ytnabomdadhgeeaa", sum := "f0b95e2178e5f46a56800e027cf57e967a4ce3aad0932eaf9d13feb4f20da5b1", checked := Try.checked }
namespace Rows
def none {H : Type} : Left H := { results := [], args := [] }

/-- 'poacherlaw05.DrawTells': WHATEVER THE INPUT: true; the input reads as it did. -/
def drawTellsSpec : ChangeSpec := { name := "drawTells", fn := fun _ => fun
  | [d1, d2, d3, d4, d5, d6] => { results := [.lit (.bool true)], args := [d1, d2, d3, d4, d5, d6] }
  | _ => none }
def drawTellsRow : OpenClaim := { program := "ytnabomdadhgeeaa", sum := "f0b95e2178e5f46a56800e027cf57e967a4ce3aad0932eaf9d13feb4f20da5b1", func := "poacher/poacherlaw05.DrawTells", spec := "drawTells", unfollowed := true, recurses := true, apart := false }
def DrawTellsSaid : Prop := drawTellsRow.holds Try.pinned (OpenSpec.ofChange drawTellsSpec)

/-- ITS FALSE NEIGHBOUR: 'it returns false'. Refute it at one input. -/
def drawTellsWrong : ChangeSpec := { name := "drawTells", fn := fun _ => fun
  | [d1, d2, d3, d4, d5, d6] => { results := [.lit (.bool false)], args := [d1, d2, d3, d4, d5, d6] }
  | _ => none }
def DrawTellsWrongFalsely : Prop := drawTellsRow.holds Try.pinned (OpenSpec.ofChange drawTellsWrong)

/-- 'poacherlaw05.DrawVictim': WHATEVER THE INPUT: true; the input reads as it did. -/
def drawVictimSpec : ChangeSpec := { name := "drawVictim", fn := fun _ => fun
  | [d1, d2, d3, d4] => { results := [.lit (.bool true)], args := [d1, d2, d3, d4] }
  | _ => none }
def drawVictimRow : OpenClaim := { program := "ytnabomdadhgeeaa", sum := "f0b95e2178e5f46a56800e027cf57e967a4ce3aad0932eaf9d13feb4f20da5b1", func := "poacher/poacherlaw05.DrawVictim", spec := "drawVictim", unfollowed := true, recurses := true, apart := false }
def DrawVictimSaid : Prop := drawVictimRow.holds Try.pinned (OpenSpec.ofChange drawVictimSpec)

/-- ITS FALSE NEIGHBOUR: 'it returns false'. Refute it at one input. -/
def drawVictimWrong : ChangeSpec := { name := "drawVictim", fn := fun _ => fun
  | [d1, d2, d3, d4] => { results := [.lit (.bool false)], args := [d1, d2, d3, d4] }
  | _ => none }
def DrawVictimWrongFalsely : Prop := drawVictimRow.holds Try.pinned (OpenSpec.ofChange drawVictimWrong)

/-- 'poacherlaw05.DrawRounds': WHATEVER THE INPUT: true; the input reads as it did. -/
def drawRoundsSpec : ChangeSpec := { name := "drawRounds", fn := fun _ => fun
  | [d1, d2, d3, d4] => { results := [.lit (.bool true)], args := [d1, d2, d3, d4] }
  | _ => none }
def drawRoundsRow : OpenClaim := { program := "ytnabomdadhgeeaa", sum := "f0b95e2178e5f46a56800e027cf57e967a4ce3aad0932eaf9d13feb4f20da5b1", func := "poacher/poacherlaw05.DrawRounds", spec := "drawRounds", unfollowed := true, recurses := true, apart := false }
def DrawRoundsSaid : Prop := drawRoundsRow.holds Try.pinned (OpenSpec.ofChange drawRoundsSpec)

/-- ITS FALSE NEIGHBOUR: 'it returns false'. Refute it at one input. -/
def drawRoundsWrong : ChangeSpec := { name := "drawRounds", fn := fun _ => fun
  | [d1, d2, d3, d4] => { results := [.lit (.bool false)], args := [d1, d2, d3, d4] }
  | _ => none }
def DrawRoundsWrongFalsely : Prop := drawRoundsRow.holds Try.pinned (OpenSpec.ofChange drawRoundsWrong)

/-- 'poacherlaw05.DrawDecode': WHATEVER THE INPUT: true; the input reads as it did. -/
def drawDecodeSpec : ChangeSpec := { name := "drawDecode", fn := fun _ => fun
  | [d1, d2, d3] => { results := [.lit (.bool true)], args := [d1, d2, d3] }
  | _ => none }
def drawDecodeRow : OpenClaim := { program := "ytnabomdadhgeeaa", sum := "f0b95e2178e5f46a56800e027cf57e967a4ce3aad0932eaf9d13feb4f20da5b1", func := "poacher/poacherlaw05.DrawDecode", spec := "drawDecode", unfollowed := true, recurses := true, apart := false }
def DrawDecodeSaid : Prop := drawDecodeRow.holds Try.pinned (OpenSpec.ofChange drawDecodeSpec)

/-- ITS FALSE NEIGHBOUR: 'it returns false'. Refute it at one input. -/
def drawDecodeWrong : ChangeSpec := { name := "drawDecode", fn := fun _ => fun
  | [d1, d2, d3] => { results := [.lit (.bool false)], args := [d1, d2, d3] }
  | _ => none }
def DrawDecodeWrongFalsely : Prop := drawDecodeRow.holds Try.pinned (OpenSpec.ofChange drawDecodeWrong)

/-- 'poacherlaw05.DrawFairer': WHATEVER THE INPUT: true; the input reads as it did. -/
def drawFairerSpec : ChangeSpec := { name := "drawFairer", fn := fun _ => fun
  | [d1, d2, d3, d4, d5, d6] => { results := [.lit (.bool true)], args := [d1, d2, d3, d4, d5, d6] }
  | _ => none }
def drawFairerRow : OpenClaim := { program := "ytnabomdadhgeeaa", sum := "f0b95e2178e5f46a56800e027cf57e967a4ce3aad0932eaf9d13feb4f20da5b1", func := "poacher/poacherlaw05.DrawFairer", spec := "drawFairer", unfollowed := true, recurses := true, apart := false }
def DrawFairerSaid : Prop := drawFairerRow.holds Try.pinned (OpenSpec.ofChange drawFairerSpec)

/-- ITS FALSE NEIGHBOUR: 'it returns false'. Refute it at one input. -/
def drawFairerWrong : ChangeSpec := { name := "drawFairer", fn := fun _ => fun
  | [d1, d2, d3, d4, d5, d6] => { results := [.lit (.bool false)], args := [d1, d2, d3, d4, d5, d6] }
  | _ => none }
def DrawFairerWrongFalsely : Prop := drawFairerRow.holds Try.pinned (OpenSpec.ofChange drawFairerWrong)

/-- 'poacherlaw05.DrawRound': WHATEVER THE INPUT: true; the input reads as it did. -/
def drawRoundSpec : ChangeSpec := { name := "drawRound", fn := fun _ => fun
  | [d1, d2, d3, d4, d5] => { results := [.lit (.bool true)], args := [d1, d2, d3, d4, d5] }
  | _ => none }
def drawRoundRow : OpenClaim := { program := "ytnabomdadhgeeaa", sum := "f0b95e2178e5f46a56800e027cf57e967a4ce3aad0932eaf9d13feb4f20da5b1", func := "poacher/poacherlaw05.DrawRound", spec := "drawRound", unfollowed := true, recurses := true, apart := false }
def DrawRoundSaid : Prop := drawRoundRow.holds Try.pinned (OpenSpec.ofChange drawRoundSpec)

/-- ITS FALSE NEIGHBOUR: 'it returns false'. Refute it at one input. -/
def drawRoundWrong : ChangeSpec := { name := "drawRound", fn := fun _ => fun
  | [d1, d2, d3, d4, d5] => { results := [.lit (.bool false)], args := [d1, d2, d3, d4, d5] }
  | _ => none }
def DrawRoundWrongFalsely : Prop := drawRoundRow.holds Try.pinned (OpenSpec.ofChange drawRoundWrong)

/-- 'poacherlaw05.DrawFits': WHATEVER THE INPUT: true; the input reads as it did. -/
def drawFitsSpec : ChangeSpec := { name := "drawFits", fn := fun _ => fun
  | [d1, d2, d3] => { results := [.lit (.bool true)], args := [d1, d2, d3] }
  | _ => none }
def drawFitsRow : OpenClaim := { program := "ytnabomdadhgeeaa", sum := "f0b95e2178e5f46a56800e027cf57e967a4ce3aad0932eaf9d13feb4f20da5b1", func := "poacher/poacherlaw05.DrawFits", spec := "drawFits", unfollowed := true, recurses := true, apart := false }
def DrawFitsSaid : Prop := drawFitsRow.holds Try.pinned (OpenSpec.ofChange drawFitsSpec)

/-- ITS FALSE NEIGHBOUR: 'it returns false'. Refute it at one input. -/
def drawFitsWrong : ChangeSpec := { name := "drawFits", fn := fun _ => fun
  | [d1, d2, d3] => { results := [.lit (.bool false)], args := [d1, d2, d3] }
  | _ => none }
def DrawFitsWrongFalsely : Prop := drawFitsRow.holds Try.pinned (OpenSpec.ofChange drawFitsWrong)

/- THE SECOND FORM. 'bulk': how many values and letters a reading holds, each counted each time it is reached (what is shared counts as often as it is met; a slice's spare places count too). A statement '..UptoSaid' is the law's where the arguments, and the package variables that the reading takes, are together of bulk at most 1048576: NARROWER than '..Said'. Prove '..Said' where nothing that the law and all that it calls make is longer than what came in: it says more and counts as full. Else prove '..UptoSaid'. A law counts once. -/
mutual
def uptoBulk {H : Type} : DataW H → Nat
  | .lit (.string bytes) => bytes.length + 1
  | .lit _ => 1
  | .nil => 1
  | .ptr d => uptoBulk d + 1
  | .slice elems spare => uptoBulkAll elems + uptoBulkAll spare + 1
  | .agg parts => uptoBulkAll parts + 1
  | .iface _ d => uptoBulk d + 1
  | .map entries => uptoBulkEntries entries + 1
  | .held _ => 1
def uptoBulkAll {H : Type} : List (DataW H) → Nat
  | [] => 0
  | d :: r => uptoBulk d + uptoBulkAll r
def uptoBulkEntries {H : Type} : List (Lit × DataW H) → Nat
  | [] => 0
  | x :: r => uptoBulkEntry x + uptoBulkEntries r
def uptoBulkEntry {H : Type} : Lit × DataW H → Nat
  | (.string bytes, d) => bytes.length + uptoBulk d + 1
  | (_, d) => uptoBulk d + 1
 end
def uptoSmall : (H : Type) → List (DataW H) → Bool := fun _ ds => decide (uptoBulkAll ds ≤ 1048576)
def OpenSpec.upto (s : _root_.Go.ChangeSpec) : _root_.Go.OpenSpec := { _root_.Go.OpenSpec.ofChange s with cond := some uptoSmall }

/-- 'poacherlaw05.DrawTells', WHERE WHAT IT READS IS OF BULK AT MOST 1048576: true; the input reads as it did. -/
def drawTellsUptoRow : OpenClaim := { program := "ytnabomdadhgeeaa", sum := "f0b95e2178e5f46a56800e027cf57e967a4ce3aad0932eaf9d13feb4f20da5b1", func := "poacher/poacherlaw05.DrawTells", spec := "drawTells", unfollowed := true, recurses := true, apart := false, narrowed := true }
def DrawTellsUptoSaid : Prop := drawTellsUptoRow.holds Try.pinned (OpenSpec.upto drawTellsSpec)

/-- 'poacherlaw05.DrawVictim', WHERE WHAT IT READS IS OF BULK AT MOST 1048576: true; the input reads as it did. -/
def drawVictimUptoRow : OpenClaim := { program := "ytnabomdadhgeeaa", sum := "f0b95e2178e5f46a56800e027cf57e967a4ce3aad0932eaf9d13feb4f20da5b1", func := "poacher/poacherlaw05.DrawVictim", spec := "drawVictim", unfollowed := true, recurses := true, apart := false, narrowed := true }
def DrawVictimUptoSaid : Prop := drawVictimUptoRow.holds Try.pinned (OpenSpec.upto drawVictimSpec)

/-- 'poacherlaw05.DrawRounds', WHERE WHAT IT READS IS OF BULK AT MOST 1048576: true; the input reads as it did. -/
def drawRoundsUptoRow : OpenClaim := { program := "ytnabomdadhgeeaa", sum := "f0b95e2178e5f46a56800e027cf57e967a4ce3aad0932eaf9d13feb4f20da5b1", func := "poacher/poacherlaw05.DrawRounds", spec := "drawRounds", unfollowed := true, recurses := true, apart := false, narrowed := true }
def DrawRoundsUptoSaid : Prop := drawRoundsUptoRow.holds Try.pinned (OpenSpec.upto drawRoundsSpec)

/-- 'poacherlaw05.DrawDecode', WHERE WHAT IT READS IS OF BULK AT MOST 1048576: true; the input reads as it did. -/
def drawDecodeUptoRow : OpenClaim := { program := "ytnabomdadhgeeaa", sum := "f0b95e2178e5f46a56800e027cf57e967a4ce3aad0932eaf9d13feb4f20da5b1", func := "poacher/poacherlaw05.DrawDecode", spec := "drawDecode", unfollowed := true, recurses := true, apart := false, narrowed := true }
def DrawDecodeUptoSaid : Prop := drawDecodeUptoRow.holds Try.pinned (OpenSpec.upto drawDecodeSpec)

/-- 'poacherlaw05.DrawFairer', WHERE WHAT IT READS IS OF BULK AT MOST 1048576: true; the input reads as it did. -/
def drawFairerUptoRow : OpenClaim := { program := "ytnabomdadhgeeaa", sum := "f0b95e2178e5f46a56800e027cf57e967a4ce3aad0932eaf9d13feb4f20da5b1", func := "poacher/poacherlaw05.DrawFairer", spec := "drawFairer", unfollowed := true, recurses := true, apart := false, narrowed := true }
def DrawFairerUptoSaid : Prop := drawFairerUptoRow.holds Try.pinned (OpenSpec.upto drawFairerSpec)

/-- 'poacherlaw05.DrawRound', WHERE WHAT IT READS IS OF BULK AT MOST 1048576: true; the input reads as it did. -/
def drawRoundUptoRow : OpenClaim := { program := "ytnabomdadhgeeaa", sum := "f0b95e2178e5f46a56800e027cf57e967a4ce3aad0932eaf9d13feb4f20da5b1", func := "poacher/poacherlaw05.DrawRound", spec := "drawRound", unfollowed := true, recurses := true, apart := false, narrowed := true }
def DrawRoundUptoSaid : Prop := drawRoundUptoRow.holds Try.pinned (OpenSpec.upto drawRoundSpec)

/-- 'poacherlaw05.DrawFits', WHERE WHAT IT READS IS OF BULK AT MOST 1048576: true; the input reads as it did. -/
def drawFitsUptoRow : OpenClaim := { program := "ytnabomdadhgeeaa", sum := "f0b95e2178e5f46a56800e027cf57e967a4ce3aad0932eaf9d13feb4f20da5b1", func := "poacher/poacherlaw05.DrawFits", spec := "drawFits", unfollowed := true, recurses := true, apart := false, narrowed := true }
def DrawFitsUptoSaid : Prop := drawFitsUptoRow.holds Try.pinned (OpenSpec.upto drawFitsSpec)

end Rows
end Go.Proofs.Ytnabomdadhgeeaa
