/-
  No cell of these rows narrows 'for every input' (looked for: loops, veiled, ifaces, maps, wideKeys, modest, calm, conditions, laid).
  DERIVED. THE GIVEN ROWS OF THIS SEAT. 6 by the template 'for every input the law returns true; each argument reads behind the call as it read before'; 0 by the template 'total and deterministic' (their statements: YtgemaeibmgkneaaTotals.lean).
  GIVEN WITH THE SEED: the statements are not yours to turn. If you find one false, say at which input.
  Laid BY PROGRAM, IN A SANDBOX (cutbox-rows.mjs): the forced cells as the released guide's own fill.sh prints them over the translation e6fca4a21a444193… (all of the seat's roots in one cut). By AI agents, Wed Nov 11 2026. No macro, syntax, notation, axiom, sorry.
-/
import Derived.Test.YtgemaeibmgkneaaChecked
import GoSem.Claim
import GoSem.ClaimJoined
import GoSem.ClaimMapViews
import Derived.JoinedTies
import Derived.KernelRfl
namespace Go.Proofs.Ytgemaeibmgkneaa
/- THE CELL 'sum', in the pinned program and in every row, IS THE sha256 OF THE DUMP (.gsa) THAT YtgemaeibmgkneaaProg.lean LOADS. Nothing in Lean hashes anything: it is a label: what it is worth is what the hold of that sum in a sandbox is worth. -/
noncomputable def Try.pinned : Pinned := { name := "ytgemaeibmgkneaa", sum := "e6fca4a21a44419385d126cf33002973d3611d8628a57bcc997cfdc47fab99f9", checked := Try.checked }
namespace Rows
def none {H : Type} : Left H := { results := [], args := [] }

/-- 'poacherlaw16.EventSigns': WHATEVER THE INPUT: true; the input reads as it did. -/
def eventSignsSpec : ChangeSpec := { name := "eventSigns", fn := fun _ => fun
  | [d1, d2, d3] => { results := [.lit (.bool true)], args := [d1, d2, d3] }
  | _ => none }
def eventSignsRow : OpenClaim := { program := "ytgemaeibmgkneaa", sum := "e6fca4a21a44419385d126cf33002973d3611d8628a57bcc997cfdc47fab99f9", func := "poacher/poacherlaw16.EventSigns", spec := "eventSigns", unfollowed := true, recurses := true, apart := false }
def EventSignsSaid : Prop := eventSignsRow.holds Try.pinned (OpenSpec.ofChange eventSignsSpec)

/-- ITS FALSE NEIGHBOUR: 'it returns false'. Refute it at one input. -/
def eventSignsWrong : ChangeSpec := { name := "eventSigns", fn := fun _ => fun
  | [d1, d2, d3] => { results := [.lit (.bool false)], args := [d1, d2, d3] }
  | _ => none }
def EventSignsWrongFalsely : Prop := eventSignsRow.holds Try.pinned (OpenSpec.ofChange eventSignsWrong)

/-- 'poacherlaw16.EventWakes': WHATEVER THE INPUT: true; the input reads as it did. -/
def eventWakesSpec : ChangeSpec := { name := "eventWakes", fn := fun _ => fun
  | [d1, d2, d3] => { results := [.lit (.bool true)], args := [d1, d2, d3] }
  | _ => none }
def eventWakesRow : OpenClaim := { program := "ytgemaeibmgkneaa", sum := "e6fca4a21a44419385d126cf33002973d3611d8628a57bcc997cfdc47fab99f9", func := "poacher/poacherlaw16.EventWakes", spec := "eventWakes", unfollowed := true, recurses := true, apart := false }
def EventWakesSaid : Prop := eventWakesRow.holds Try.pinned (OpenSpec.ofChange eventWakesSpec)

/-- ITS FALSE NEIGHBOUR: 'it returns false'. Refute it at one input. -/
def eventWakesWrong : ChangeSpec := { name := "eventWakes", fn := fun _ => fun
  | [d1, d2, d3] => { results := [.lit (.bool false)], args := [d1, d2, d3] }
  | _ => none }
def EventWakesWrongFalsely : Prop := eventWakesRow.holds Try.pinned (OpenSpec.ofChange eventWakesWrong)

/-- 'poacherlaw16.EventMissed': WHATEVER THE INPUT: true; the input reads as it did. -/
def eventMissedSpec : ChangeSpec := { name := "eventMissed", fn := fun _ => fun
  | [d1, d2, d3, d4] => { results := [.lit (.bool true)], args := [d1, d2, d3, d4] }
  | _ => none }
def eventMissedRow : OpenClaim := { program := "ytgemaeibmgkneaa", sum := "e6fca4a21a44419385d126cf33002973d3611d8628a57bcc997cfdc47fab99f9", func := "poacher/poacherlaw16.EventMissed", spec := "eventMissed", unfollowed := true, recurses := true, apart := false }
def EventMissedSaid : Prop := eventMissedRow.holds Try.pinned (OpenSpec.ofChange eventMissedSpec)

/-- ITS FALSE NEIGHBOUR: 'it returns false'. Refute it at one input. -/
def eventMissedWrong : ChangeSpec := { name := "eventMissed", fn := fun _ => fun
  | [d1, d2, d3, d4] => { results := [.lit (.bool false)], args := [d1, d2, d3, d4] }
  | _ => none }
def EventMissedWrongFalsely : Prop := eventMissedRow.holds Try.pinned (OpenSpec.ofChange eventMissedWrong)

/-- 'poacherlaw16.EventFirst': WHATEVER THE INPUT: true; the input reads as it did. -/
def eventFirstSpec : ChangeSpec := { name := "eventFirst", fn := fun _ => fun
  | [d1, d2, d3] => { results := [.lit (.bool true)], args := [d1, d2, d3] }
  | _ => none }
def eventFirstRow : OpenClaim := { program := "ytgemaeibmgkneaa", sum := "e6fca4a21a44419385d126cf33002973d3611d8628a57bcc997cfdc47fab99f9", func := "poacher/poacherlaw16.EventFirst", spec := "eventFirst", unfollowed := true, recurses := true, apart := false }
def EventFirstSaid : Prop := eventFirstRow.holds Try.pinned (OpenSpec.ofChange eventFirstSpec)

/-- ITS FALSE NEIGHBOUR: 'it returns false'. Refute it at one input. -/
def eventFirstWrong : ChangeSpec := { name := "eventFirst", fn := fun _ => fun
  | [d1, d2, d3] => { results := [.lit (.bool false)], args := [d1, d2, d3] }
  | _ => none }
def EventFirstWrongFalsely : Prop := eventFirstRow.holds Try.pinned (OpenSpec.ofChange eventFirstWrong)

/-- 'poacherlaw16.EventNobody': WHATEVER THE INPUT: true; the input reads as it did. -/
def eventNobodySpec : ChangeSpec := { name := "eventNobody", fn := fun _ => fun
  | [d1, d2, d3] => { results := [.lit (.bool true)], args := [d1, d2, d3] }
  | _ => none }
def eventNobodyRow : OpenClaim := { program := "ytgemaeibmgkneaa", sum := "e6fca4a21a44419385d126cf33002973d3611d8628a57bcc997cfdc47fab99f9", func := "poacher/poacherlaw16.EventNobody", spec := "eventNobody", unfollowed := true, recurses := true, apart := false }
def EventNobodySaid : Prop := eventNobodyRow.holds Try.pinned (OpenSpec.ofChange eventNobodySpec)

/-- ITS FALSE NEIGHBOUR: 'it returns false'. Refute it at one input. -/
def eventNobodyWrong : ChangeSpec := { name := "eventNobody", fn := fun _ => fun
  | [d1, d2, d3] => { results := [.lit (.bool false)], args := [d1, d2, d3] }
  | _ => none }
def EventNobodyWrongFalsely : Prop := eventNobodyRow.holds Try.pinned (OpenSpec.ofChange eventNobodyWrong)

/-- 'poacherlaw16.EventWho': WHATEVER THE INPUT: true; the input reads as it did. -/
def eventWhoSpec : ChangeSpec := { name := "eventWho", fn := fun _ => fun
  | [d1, d2, d3] => { results := [.lit (.bool true)], args := [d1, d2, d3] }
  | _ => none }
def eventWhoRow : OpenClaim := { program := "ytgemaeibmgkneaa", sum := "e6fca4a21a44419385d126cf33002973d3611d8628a57bcc997cfdc47fab99f9", func := "poacher/poacherlaw16.EventWho", spec := "eventWho", unfollowed := true, recurses := true, apart := false }
def EventWhoSaid : Prop := eventWhoRow.holds Try.pinned (OpenSpec.ofChange eventWhoSpec)

/-- ITS FALSE NEIGHBOUR: 'it returns false'. Refute it at one input. -/
def eventWhoWrong : ChangeSpec := { name := "eventWho", fn := fun _ => fun
  | [d1, d2, d3] => { results := [.lit (.bool false)], args := [d1, d2, d3] }
  | _ => none }
def EventWhoWrongFalsely : Prop := eventWhoRow.holds Try.pinned (OpenSpec.ofChange eventWhoWrong)

/- THE SECOND FORM. 'bulk': how many values and letters a reading holds, each counted each time it is reached (what is shared counts as often as it is met; a slice's spare places count too). A statement '..UptoSaid' is the law's where the arguments, and the package variables that the reading takes, are together of bulk at most 1048576: NARROWER than '..Said'. Prove '..Said' where nothing that the law and all that it calls make is longer than what came in: it says more and counts as full. Else prove '..UptoSaid'. A law counts once. -/
mutual
def uptoBulk {H : Type} : DataW H → Nat
  | .lit (.string bytes) => bytes.length + 1
  | .lit _ => 1
  | .nil => 1
  | .ptr d => uptoBulk d + 1
  | .slice elems spare => uptoBulkAll elems + uptoBulkAll spare + 1
  | .agg parts => uptoBulkAll parts + 1
  | .iface _ d => uptoBulk d + 1
  | .map entries => uptoBulkEntries entries + 1
  | .held _ => 1
def uptoBulkAll {H : Type} : List (DataW H) → Nat
  | [] => 0
  | d :: r => uptoBulk d + uptoBulkAll r
def uptoBulkEntries {H : Type} : List (Lit × DataW H) → Nat
  | [] => 0
  | x :: r => uptoBulkEntry x + uptoBulkEntries r
def uptoBulkEntry {H : Type} : Lit × DataW H → Nat
  | (.string bytes, d) => bytes.length + uptoBulk d + 1
  | (_, d) => uptoBulk d + 1
 end
def uptoSmall : (H : Type) → List (DataW H) → Bool := fun _ ds => decide (uptoBulkAll ds ≤ 1048576)
def OpenSpec.upto (s : _root_.Go.ChangeSpec) : _root_.Go.OpenSpec := { _root_.Go.OpenSpec.ofChange s with cond := some uptoSmall }

/-- 'poacherlaw16.EventSigns', WHERE WHAT IT READS IS OF BULK AT MOST 1048576: true; the input reads as it did. -/
def eventSignsUptoRow : OpenClaim := { program := "ytgemaeibmgkneaa", sum := "e6fca4a21a44419385d126cf33002973d3611d8628a57bcc997cfdc47fab99f9", func := "poacher/poacherlaw16.EventSigns", spec := "eventSigns", unfollowed := true, recurses := true, apart := false, narrowed := true }
def EventSignsUptoSaid : Prop := eventSignsUptoRow.holds Try.pinned (OpenSpec.upto eventSignsSpec)

/-- 'poacherlaw16.EventWakes', WHERE WHAT IT READS IS OF BULK AT MOST 1048576: true; the input reads as it did. -/
def eventWakesUptoRow : OpenClaim := { program := "ytgemaeibmgkneaa", sum := "e6fca4a21a44419385d126cf33002973d3611d8628a57bcc997cfdc47fab99f9", func := "poacher/poacherlaw16.EventWakes", spec := "eventWakes", unfollowed := true, recurses := true, apart := false, narrowed := true }
def EventWakesUptoSaid : Prop := eventWakesUptoRow.holds Try.pinned (OpenSpec.upto eventWakesSpec)

/-- 'poacherlaw16.EventMissed', WHERE WHAT IT READS IS OF BULK AT MOST 1048576: true; the input reads as it did. -/
def eventMissedUptoRow : OpenClaim := { program := "ytgemaeibmgkneaa", sum := "e6fca4a21a44419385d126cf33002973d3611d8628a57bcc997cfdc47fab99f9", func := "poacher/poacherlaw16.EventMissed", spec := "eventMissed", unfollowed := true, recurses := true, apart := false, narrowed := true }
def EventMissedUptoSaid : Prop := eventMissedUptoRow.holds Try.pinned (OpenSpec.upto eventMissedSpec)

/-- 'poacherlaw16.EventFirst', WHERE WHAT IT READS IS OF BULK AT MOST 1048576: true; the input reads as it did. -/
def eventFirstUptoRow : OpenClaim := { program := "ytgemaeibmgkneaa", sum := "e6fca4a21a44419385d126cf33002973d3611d8628a57bcc997cfdc47fab99f9", func := "poacher/poacherlaw16.EventFirst", spec := "eventFirst", unfollowed := true, recurses := true, apart := false, narrowed := true }
def EventFirstUptoSaid : Prop := eventFirstUptoRow.holds Try.pinned (OpenSpec.upto eventFirstSpec)

/-- 'poacherlaw16.EventNobody', WHERE WHAT IT READS IS OF BULK AT MOST 1048576: true; the input reads as it did. -/
def eventNobodyUptoRow : OpenClaim := { program := "ytgemaeibmgkneaa", sum := "e6fca4a21a44419385d126cf33002973d3611d8628a57bcc997cfdc47fab99f9", func := "poacher/poacherlaw16.EventNobody", spec := "eventNobody", unfollowed := true, recurses := true, apart := false, narrowed := true }
def EventNobodyUptoSaid : Prop := eventNobodyUptoRow.holds Try.pinned (OpenSpec.upto eventNobodySpec)

/-- 'poacherlaw16.EventWho', WHERE WHAT IT READS IS OF BULK AT MOST 1048576: true; the input reads as it did. -/
def eventWhoUptoRow : OpenClaim := { program := "ytgemaeibmgkneaa", sum := "e6fca4a21a44419385d126cf33002973d3611d8628a57bcc997cfdc47fab99f9", func := "poacher/poacherlaw16.EventWho", spec := "eventWho", unfollowed := true, recurses := true, apart := false, narrowed := true }
def EventWhoUptoSaid : Prop := eventWhoUptoRow.holds Try.pinned (OpenSpec.upto eventWhoSpec)

end Rows
end Go.Proofs.Ytgemaeibmgkneaa
