/-
  No cell of these rows narrows 'for every input' (looked for: loops, veiled, ifaces, maps, wideKeys, modest, calm, conditions, laid).
  DERIVED. THE GIVEN ROWS OF THIS SEAT. 6 by the template 'for every input the law returns true; each argument reads behind the call as it read before'; 0 by the template 'total and deterministic' (their statements: YtjbmldadlpbiaaaTotals.lean).
  GIVEN WITH THE SEED: the statements are not yours to turn. If you find one false, say at which input.
  Laid BY PROGRAM, IN A SANDBOX (cutbox-rows.mjs): the forced cells as the released guide's own fill.sh prints them over the translation d544a354b075ff8b… (all of the seat's roots in one cut). By AI agents, Wed Nov 11 2026. No macro, syntax, notation, axiom, sorry.
-/
import Derived.Test.YtjbmldadlpbiaaaChecked
import GoSem.Claim
import GoSem.ClaimJoined
import GoSem.ClaimMapViews
import Derived.JoinedTies
import Derived.KernelRfl
namespace Go.Proofs.Ytjbmldadlpbiaaa
/- THE CELL 'sum', in the pinned program and in every row, IS THE sha256 OF THE DUMP (.gsa) THAT YtjbmldadlpbiaaaProg.lean LOADS. Nothing in Lean hashes anything: it is a label: what it is worth is what the hold of that sum in a sandbox is worth. -/
noncomputable def Try.pinned : Pinned := { name := "ytjbmldadlpbiaaa", sum := "d544a354b075ff8b574f1ff7abf62c68b56abbcd67f813421442780ac3287514", checked := Try.checked }
namespace Rows
def none {H : Type} : Left H := { results := [], args := [] }

/-- 'poacherlaw07.PushTells': WHATEVER THE INPUT: true; the input reads as it did. -/
def pushTellsSpec : ChangeSpec := { name := "pushTells", fn := fun _ => fun
  | [d1, d2, d3, d4, d5] => { results := [.lit (.bool true)], args := [d1, d2, d3, d4, d5] }
  | _ => none }
def pushTellsRow : OpenClaim := { program := "ytjbmldadlpbiaaa", sum := "d544a354b075ff8b574f1ff7abf62c68b56abbcd67f813421442780ac3287514", func := "poacher/poacherlaw07.PushTells", spec := "pushTells", unfollowed := true, recurses := true, apart := false }
def PushTellsSaid : Prop := pushTellsRow.holds Try.pinned (OpenSpec.ofChange pushTellsSpec)

/-- ITS FALSE NEIGHBOUR: 'it returns false'. Refute it at one input. -/
def pushTellsWrong : ChangeSpec := { name := "pushTells", fn := fun _ => fun
  | [d1, d2, d3, d4, d5] => { results := [.lit (.bool false)], args := [d1, d2, d3, d4, d5] }
  | _ => none }
def PushTellsWrongFalsely : Prop := pushTellsRow.holds Try.pinned (OpenSpec.ofChange pushTellsWrong)

/-- 'poacherlaw07.PushAlone': WHATEVER THE INPUT: true; the input reads as it did. -/
def pushAloneSpec : ChangeSpec := { name := "pushAlone", fn := fun _ => fun
  | [d1, d2, d3, d4] => { results := [.lit (.bool true)], args := [d1, d2, d3, d4] }
  | _ => none }
def pushAloneRow : OpenClaim := { program := "ytjbmldadlpbiaaa", sum := "d544a354b075ff8b574f1ff7abf62c68b56abbcd67f813421442780ac3287514", func := "poacher/poacherlaw07.PushAlone", spec := "pushAlone", unfollowed := true, recurses := true, apart := false }
def PushAloneSaid : Prop := pushAloneRow.holds Try.pinned (OpenSpec.ofChange pushAloneSpec)

/-- ITS FALSE NEIGHBOUR: 'it returns false'. Refute it at one input. -/
def pushAloneWrong : ChangeSpec := { name := "pushAlone", fn := fun _ => fun
  | [d1, d2, d3, d4] => { results := [.lit (.bool false)], args := [d1, d2, d3, d4] }
  | _ => none }
def PushAloneWrongFalsely : Prop := pushAloneRow.holds Try.pinned (OpenSpec.ofChange pushAloneWrong)

/-- 'poacherlaw07.PushCells': WHATEVER THE INPUT: true; the input reads as it did. -/
def pushCellsSpec : ChangeSpec := { name := "pushCells", fn := fun _ => fun
  | [d1, d2, d3] => { results := [.lit (.bool true)], args := [d1, d2, d3] }
  | _ => none }
def pushCellsRow : OpenClaim := { program := "ytjbmldadlpbiaaa", sum := "d544a354b075ff8b574f1ff7abf62c68b56abbcd67f813421442780ac3287514", func := "poacher/poacherlaw07.PushCells", spec := "pushCells", unfollowed := true, recurses := true, apart := false }
def PushCellsSaid : Prop := pushCellsRow.holds Try.pinned (OpenSpec.ofChange pushCellsSpec)

/-- ITS FALSE NEIGHBOUR: 'it returns false'. Refute it at one input. -/
def pushCellsWrong : ChangeSpec := { name := "pushCells", fn := fun _ => fun
  | [d1, d2, d3] => { results := [.lit (.bool false)], args := [d1, d2, d3] }
  | _ => none }
def PushCellsWrongFalsely : Prop := pushCellsRow.holds Try.pinned (OpenSpec.ofChange pushCellsWrong)

/-- 'poacherlaw07.PushOther': WHATEVER THE INPUT: true; the input reads as it did. -/
def pushOtherSpec : ChangeSpec := { name := "pushOther", fn := fun _ => fun
  | [d1, d2, d3, d4, d5] => { results := [.lit (.bool true)], args := [d1, d2, d3, d4, d5] }
  | _ => none }
def pushOtherRow : OpenClaim := { program := "ytjbmldadlpbiaaa", sum := "d544a354b075ff8b574f1ff7abf62c68b56abbcd67f813421442780ac3287514", func := "poacher/poacherlaw07.PushOther", spec := "pushOther", unfollowed := true, recurses := true, apart := false }
def PushOtherSaid : Prop := pushOtherRow.holds Try.pinned (OpenSpec.ofChange pushOtherSpec)

/-- ITS FALSE NEIGHBOUR: 'it returns false'. Refute it at one input. -/
def pushOtherWrong : ChangeSpec := { name := "pushOther", fn := fun _ => fun
  | [d1, d2, d3, d4, d5] => { results := [.lit (.bool false)], args := [d1, d2, d3, d4, d5] }
  | _ => none }
def PushOtherWrongFalsely : Prop := pushOtherRow.holds Try.pinned (OpenSpec.ofChange pushOtherWrong)

/-- 'poacherlaw07.PushSeen': WHATEVER THE INPUT: true; the input reads as it did. -/
def pushSeenSpec : ChangeSpec := { name := "pushSeen", fn := fun _ => fun
  | [d1, d2, d3, d4] => { results := [.lit (.bool true)], args := [d1, d2, d3, d4] }
  | _ => none }
def pushSeenRow : OpenClaim := { program := "ytjbmldadlpbiaaa", sum := "d544a354b075ff8b574f1ff7abf62c68b56abbcd67f813421442780ac3287514", func := "poacher/poacherlaw07.PushSeen", spec := "pushSeen", unfollowed := true, recurses := true, apart := false }
def PushSeenSaid : Prop := pushSeenRow.holds Try.pinned (OpenSpec.ofChange pushSeenSpec)

/-- ITS FALSE NEIGHBOUR: 'it returns false'. Refute it at one input. -/
def pushSeenWrong : ChangeSpec := { name := "pushSeen", fn := fun _ => fun
  | [d1, d2, d3, d4] => { results := [.lit (.bool false)], args := [d1, d2, d3, d4] }
  | _ => none }
def PushSeenWrongFalsely : Prop := pushSeenRow.holds Try.pinned (OpenSpec.ofChange pushSeenWrong)

/-- 'poacherlaw07.PushGoes': WHATEVER THE INPUT: true; the input reads as it did. -/
def pushGoesSpec : ChangeSpec := { name := "pushGoes", fn := fun _ => fun
  | [d1, d2, d3, d4] => { results := [.lit (.bool true)], args := [d1, d2, d3, d4] }
  | _ => none }
def pushGoesRow : OpenClaim := { program := "ytjbmldadlpbiaaa", sum := "d544a354b075ff8b574f1ff7abf62c68b56abbcd67f813421442780ac3287514", func := "poacher/poacherlaw07.PushGoes", spec := "pushGoes", unfollowed := true, recurses := true, apart := false }
def PushGoesSaid : Prop := pushGoesRow.holds Try.pinned (OpenSpec.ofChange pushGoesSpec)

/-- ITS FALSE NEIGHBOUR: 'it returns false'. Refute it at one input. -/
def pushGoesWrong : ChangeSpec := { name := "pushGoes", fn := fun _ => fun
  | [d1, d2, d3, d4] => { results := [.lit (.bool false)], args := [d1, d2, d3, d4] }
  | _ => none }
def PushGoesWrongFalsely : Prop := pushGoesRow.holds Try.pinned (OpenSpec.ofChange pushGoesWrong)

/- THE SECOND FORM. 'bulk': how many values and letters a reading holds, each counted each time it is reached (what is shared counts as often as it is met; a slice's spare places count too). A statement '..UptoSaid' is the law's where the arguments, and the package variables that the reading takes, are together of bulk at most 1048576: NARROWER than '..Said'. Prove '..Said' where nothing that the law and all that it calls make is longer than what came in: it says more and counts as full. Else prove '..UptoSaid'. A law counts once. -/
mutual
def uptoBulk {H : Type} : DataW H → Nat
  | .lit (.string bytes) => bytes.length + 1
  | .lit _ => 1
  | .nil => 1
  | .ptr d => uptoBulk d + 1
  | .slice elems spare => uptoBulkAll elems + uptoBulkAll spare + 1
  | .agg parts => uptoBulkAll parts + 1
  | .iface _ d => uptoBulk d + 1
  | .map entries => uptoBulkEntries entries + 1
  | .held _ => 1
def uptoBulkAll {H : Type} : List (DataW H) → Nat
  | [] => 0
  | d :: r => uptoBulk d + uptoBulkAll r
def uptoBulkEntries {H : Type} : List (Lit × DataW H) → Nat
  | [] => 0
  | x :: r => uptoBulkEntry x + uptoBulkEntries r
def uptoBulkEntry {H : Type} : Lit × DataW H → Nat
  | (.string bytes, d) => bytes.length + uptoBulk d + 1
  | (_, d) => uptoBulk d + 1
 end
def uptoSmall : (H : Type) → List (DataW H) → Bool := fun _ ds => decide (uptoBulkAll ds ≤ 1048576)
def OpenSpec.upto (s : _root_.Go.ChangeSpec) : _root_.Go.OpenSpec := { _root_.Go.OpenSpec.ofChange s with cond := some uptoSmall }

/-- 'poacherlaw07.PushTells', WHERE WHAT IT READS IS OF BULK AT MOST 1048576: true; the input reads as it did. -/
def pushTellsUptoRow : OpenClaim := { program := "ytjbmldadlpbiaaa", sum := "d544a354b075ff8b574f1ff7abf62c68b56abbcd67f813421442780ac3287514", func := "poacher/poacherlaw07.PushTells", spec := "pushTells", unfollowed := true, recurses := true, apart := false, narrowed := true }
def PushTellsUptoSaid : Prop := pushTellsUptoRow.holds Try.pinned (OpenSpec.upto pushTellsSpec)

/-- 'poacherlaw07.PushAlone', WHERE WHAT IT READS IS OF BULK AT MOST 1048576: true; the input reads as it did. -/
def pushAloneUptoRow : OpenClaim := { program := "ytjbmldadlpbiaaa", sum := "d544a354b075ff8b574f1ff7abf62c68b56abbcd67f813421442780ac3287514", func := "poacher/poacherlaw07.PushAlone", spec := "pushAlone", unfollowed := true, recurses := true, apart := false, narrowed := true }
def PushAloneUptoSaid : Prop := pushAloneUptoRow.holds Try.pinned (OpenSpec.upto pushAloneSpec)

/-- 'poacherlaw07.PushCells', WHERE WHAT IT READS IS OF BULK AT MOST 1048576: true; the input reads as it did. -/
def pushCellsUptoRow : OpenClaim := { program := "ytjbmldadlpbiaaa", sum := "d544a354b075ff8b574f1ff7abf62c68b56abbcd67f813421442780ac3287514", func := "poacher/poacherlaw07.PushCells", spec := "pushCells", unfollowed := true, recurses := true, apart := false, narrowed := true }
def PushCellsUptoSaid : Prop := pushCellsUptoRow.holds Try.pinned (OpenSpec.upto pushCellsSpec)

/-- 'poacherlaw07.PushOther', WHERE WHAT IT READS IS OF BULK AT MOST 1048576: true; the input reads as it did. -/
def pushOtherUptoRow : OpenClaim := { program := "ytjbmldadlpbiaaa", sum := "d544a354b075ff8b574f1ff7abf62c68b56abbcd67f813421442780ac3287514", func := "poacher/poacherlaw07.PushOther", spec := "pushOther", unfollowed := true, recurses := true, apart := false, narrowed := true }
def PushOtherUptoSaid : Prop := pushOtherUptoRow.holds Try.pinned (OpenSpec.upto pushOtherSpec)

/-- 'poacherlaw07.PushSeen', WHERE WHAT IT READS IS OF BULK AT MOST 1048576: true; the input reads as it did. -/
def pushSeenUptoRow : OpenClaim := { program := "ytjbmldadlpbiaaa", sum := "d544a354b075ff8b574f1ff7abf62c68b56abbcd67f813421442780ac3287514", func := "poacher/poacherlaw07.PushSeen", spec := "pushSeen", unfollowed := true, recurses := true, apart := false, narrowed := true }
def PushSeenUptoSaid : Prop := pushSeenUptoRow.holds Try.pinned (OpenSpec.upto pushSeenSpec)

/-- 'poacherlaw07.PushGoes', WHERE WHAT IT READS IS OF BULK AT MOST 1048576: true; the input reads as it did. -/
def pushGoesUptoRow : OpenClaim := { program := "ytjbmldadlpbiaaa", sum := "d544a354b075ff8b574f1ff7abf62c68b56abbcd67f813421442780ac3287514", func := "poacher/poacherlaw07.PushGoes", spec := "pushGoes", unfollowed := true, recurses := true, apart := false, narrowed := true }
def PushGoesUptoSaid : Prop := pushGoesUptoRow.holds Try.pinned (OpenSpec.upto pushGoesSpec)

end Rows
end Go.Proofs.Ytjbmldadlpbiaaa
