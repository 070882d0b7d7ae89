/-
  No cell of these rows narrows 'for every input' (looked for: loops, veiled, ifaces, maps, wideKeys, modest, calm, conditions, laid).
  DERIVED. THE GIVEN ROWS OF THIS SEAT. 7 by the template 'for every input the law returns true; each argument reads behind the call as it read before'; 0 by the template 'total and deterministic' (their statements: YtppllanmgdhabaaTotals.lean).
  GIVEN WITH THE SEED: the statements are not yours to turn. If you find one false, say at which input.
  Laid BY PROGRAM, IN A SANDBOX (cutbox-rows.mjs): the forced cells as the released guide's own fill.sh prints them over the translation 269f23c7e10917cd… (all of the seat's roots in one cut). By AI agents, Wed Nov 11 2026. No macro, syntax, notation, axiom, sorry.
-/
import Derived.Test.YtppllanmgdhabaaChecked
import GoSem.Claim
import GoSem.ClaimJoined
import GoSem.ClaimMapViews
import Derived.JoinedTies
import Derived.KernelRfl
namespace Go.Proofs.Ytppllanmgdhabaa
/- THE CELL 'sum', in the pinned program and in every row, IS THE sha256 OF THE DUMP (.gsa) THAT YtppllanmgdhabaaProg.lean LOADS. Nothing in Lean hashes anything: it is a label: what it is worth is what the hold of that sum in a sandbox is worth. -/
noncomputable def Try.pinned : Pinned := { name := "ytppllanmgdhabaa", sum := "269f23c7e10917cd6cf02e6889f3354d4a01433e486000347e2b22a454070189", checked := Try.checked }
namespace Rows
def none {H : Type} : Left H := { results := [], args := [] }

/-- 'poacherlaw13.InjectTells': WHATEVER THE INPUT: true; the input reads as it did. -/
def injectTellsSpec : ChangeSpec := { name := "injectTells", fn := fun _ => fun
  | [d1, d2, d3, d4, d5, d6] => { results := [.lit (.bool true)], args := [d1, d2, d3, d4, d5, d6] }
  | _ => none }
def injectTellsRow : OpenClaim := { program := "ytppllanmgdhabaa", sum := "269f23c7e10917cd6cf02e6889f3354d4a01433e486000347e2b22a454070189", func := "poacher/poacherlaw13.InjectTells", spec := "injectTells", unfollowed := true, recurses := true, apart := false }
def InjectTellsSaid : Prop := injectTellsRow.holds Try.pinned (OpenSpec.ofChange injectTellsSpec)

/-- ITS FALSE NEIGHBOUR: 'it returns false'. Refute it at one input. -/
def injectTellsWrong : ChangeSpec := { name := "injectTells", fn := fun _ => fun
  | [d1, d2, d3, d4, d5, d6] => { results := [.lit (.bool false)], args := [d1, d2, d3, d4, d5, d6] }
  | _ => none }
def InjectTellsWrongFalsely : Prop := injectTellsRow.holds Try.pinned (OpenSpec.ofChange injectTellsWrong)

/-- 'poacherlaw13.InjectOnce': WHATEVER THE INPUT: true; the input reads as it did. -/
def injectOnceSpec : ChangeSpec := { name := "injectOnce", fn := fun _ => fun
  | [d1, d2, d3, d4, d5] => { results := [.lit (.bool true)], args := [d1, d2, d3, d4, d5] }
  | _ => none }
def injectOnceRow : OpenClaim := { program := "ytppllanmgdhabaa", sum := "269f23c7e10917cd6cf02e6889f3354d4a01433e486000347e2b22a454070189", func := "poacher/poacherlaw13.InjectOnce", spec := "injectOnce", unfollowed := true, recurses := true, apart := false }
def InjectOnceSaid : Prop := injectOnceRow.holds Try.pinned (OpenSpec.ofChange injectOnceSpec)

/-- ITS FALSE NEIGHBOUR: 'it returns false'. Refute it at one input. -/
def injectOnceWrong : ChangeSpec := { name := "injectOnce", fn := fun _ => fun
  | [d1, d2, d3, d4, d5] => { results := [.lit (.bool false)], args := [d1, d2, d3, d4, d5] }
  | _ => none }
def InjectOnceWrongFalsely : Prop := injectOnceRow.holds Try.pinned (OpenSpec.ofChange injectOnceWrong)

/-- 'poacherlaw13.InjectOrder': WHATEVER THE INPUT: true; the input reads as it did. -/
def injectOrderSpec : ChangeSpec := { name := "injectOrder", fn := fun _ => fun
  | [d1, d2, d3, d4, d5] => { results := [.lit (.bool true)], args := [d1, d2, d3, d4, d5] }
  | _ => none }
def injectOrderRow : OpenClaim := { program := "ytppllanmgdhabaa", sum := "269f23c7e10917cd6cf02e6889f3354d4a01433e486000347e2b22a454070189", func := "poacher/poacherlaw13.InjectOrder", spec := "injectOrder", unfollowed := true, recurses := true, apart := false }
def InjectOrderSaid : Prop := injectOrderRow.holds Try.pinned (OpenSpec.ofChange injectOrderSpec)

/-- ITS FALSE NEIGHBOUR: 'it returns false'. Refute it at one input. -/
def injectOrderWrong : ChangeSpec := { name := "injectOrder", fn := fun _ => fun
  | [d1, d2, d3, d4, d5] => { results := [.lit (.bool false)], args := [d1, d2, d3, d4, d5] }
  | _ => none }
def InjectOrderWrongFalsely : Prop := injectOrderRow.holds Try.pinned (OpenSpec.ofChange injectOrderWrong)

/-- 'poacherlaw13.InjectRoom': WHATEVER THE INPUT: true; the input reads as it did. -/
def injectRoomSpec : ChangeSpec := { name := "injectRoom", fn := fun _ => fun
  | [d1, d2, d3] => { results := [.lit (.bool true)], args := [d1, d2, d3] }
  | _ => none }
def injectRoomRow : OpenClaim := { program := "ytppllanmgdhabaa", sum := "269f23c7e10917cd6cf02e6889f3354d4a01433e486000347e2b22a454070189", func := "poacher/poacherlaw13.InjectRoom", spec := "injectRoom", unfollowed := true, recurses := true, apart := false }
def InjectRoomSaid : Prop := injectRoomRow.holds Try.pinned (OpenSpec.ofChange injectRoomSpec)

/-- ITS FALSE NEIGHBOUR: 'it returns false'. Refute it at one input. -/
def injectRoomWrong : ChangeSpec := { name := "injectRoom", fn := fun _ => fun
  | [d1, d2, d3] => { results := [.lit (.bool false)], args := [d1, d2, d3] }
  | _ => none }
def InjectRoomWrongFalsely : Prop := injectRoomRow.holds Try.pinned (OpenSpec.ofChange injectRoomWrong)

/-- 'poacherlaw13.InjectFirst': WHATEVER THE INPUT: true; the input reads as it did. -/
def injectFirstSpec : ChangeSpec := { name := "injectFirst", fn := fun _ => fun
  | [d1, d2, d3, d4] => { results := [.lit (.bool true)], args := [d1, d2, d3, d4] }
  | _ => none }
def injectFirstRow : OpenClaim := { program := "ytppllanmgdhabaa", sum := "269f23c7e10917cd6cf02e6889f3354d4a01433e486000347e2b22a454070189", func := "poacher/poacherlaw13.InjectFirst", spec := "injectFirst", unfollowed := true, recurses := true, apart := false }
def InjectFirstSaid : Prop := injectFirstRow.holds Try.pinned (OpenSpec.ofChange injectFirstSpec)

/-- ITS FALSE NEIGHBOUR: 'it returns false'. Refute it at one input. -/
def injectFirstWrong : ChangeSpec := { name := "injectFirst", fn := fun _ => fun
  | [d1, d2, d3, d4] => { results := [.lit (.bool false)], args := [d1, d2, d3, d4] }
  | _ => none }
def InjectFirstWrongFalsely : Prop := injectFirstRow.holds Try.pinned (OpenSpec.ofChange injectFirstWrong)

/-- 'poacherlaw13.InjectTurn': WHATEVER THE INPUT: true; the input reads as it did. -/
def injectTurnSpec : ChangeSpec := { name := "injectTurn", fn := fun _ => fun
  | [d1, d2] => { results := [.lit (.bool true)], args := [d1, d2] }
  | _ => none }
def injectTurnRow : OpenClaim := { program := "ytppllanmgdhabaa", sum := "269f23c7e10917cd6cf02e6889f3354d4a01433e486000347e2b22a454070189", func := "poacher/poacherlaw13.InjectTurn", spec := "injectTurn", unfollowed := true, recurses := true, apart := false }
def InjectTurnSaid : Prop := injectTurnRow.holds Try.pinned (OpenSpec.ofChange injectTurnSpec)

/-- ITS FALSE NEIGHBOUR: 'it returns false'. Refute it at one input. -/
def injectTurnWrong : ChangeSpec := { name := "injectTurn", fn := fun _ => fun
  | [d1, d2] => { results := [.lit (.bool false)], args := [d1, d2] }
  | _ => none }
def InjectTurnWrongFalsely : Prop := injectTurnRow.holds Try.pinned (OpenSpec.ofChange injectTurnWrong)

/-- 'poacherlaw13.InjectWho': WHATEVER THE INPUT: true; the input reads as it did. -/
def injectWhoSpec : ChangeSpec := { name := "injectWho", fn := fun _ => fun
  | [d1, d2, d3, d4] => { results := [.lit (.bool true)], args := [d1, d2, d3, d4] }
  | _ => none }
def injectWhoRow : OpenClaim := { program := "ytppllanmgdhabaa", sum := "269f23c7e10917cd6cf02e6889f3354d4a01433e486000347e2b22a454070189", func := "poacher/poacherlaw13.InjectWho", spec := "injectWho", unfollowed := true, recurses := true, apart := false }
def InjectWhoSaid : Prop := injectWhoRow.holds Try.pinned (OpenSpec.ofChange injectWhoSpec)

/-- ITS FALSE NEIGHBOUR: 'it returns false'. Refute it at one input. -/
def injectWhoWrong : ChangeSpec := { name := "injectWho", fn := fun _ => fun
  | [d1, d2, d3, d4] => { results := [.lit (.bool false)], args := [d1, d2, d3, d4] }
  | _ => none }
def InjectWhoWrongFalsely : Prop := injectWhoRow.holds Try.pinned (OpenSpec.ofChange injectWhoWrong)

/- THE SECOND FORM. 'bulk': how many values and letters a reading holds, each counted each time it is reached (what is shared counts as often as it is met; a slice's spare places count too). A statement '..UptoSaid' is the law's where the arguments, and the package variables that the reading takes, are together of bulk at most 1048576: NARROWER than '..Said'. Prove '..Said' where nothing that the law and all that it calls make is longer than what came in: it says more and counts as full. Else prove '..UptoSaid'. A law counts once. -/
mutual
def uptoBulk {H : Type} : DataW H → Nat
  | .lit (.string bytes) => bytes.length + 1
  | .lit _ => 1
  | .nil => 1
  | .ptr d => uptoBulk d + 1
  | .slice elems spare => uptoBulkAll elems + uptoBulkAll spare + 1
  | .agg parts => uptoBulkAll parts + 1
  | .iface _ d => uptoBulk d + 1
  | .map entries => uptoBulkEntries entries + 1
  | .held _ => 1
def uptoBulkAll {H : Type} : List (DataW H) → Nat
  | [] => 0
  | d :: r => uptoBulk d + uptoBulkAll r
def uptoBulkEntries {H : Type} : List (Lit × DataW H) → Nat
  | [] => 0
  | x :: r => uptoBulkEntry x + uptoBulkEntries r
def uptoBulkEntry {H : Type} : Lit × DataW H → Nat
  | (.string bytes, d) => bytes.length + uptoBulk d + 1
  | (_, d) => uptoBulk d + 1
 end
def uptoSmall : (H : Type) → List (DataW H) → Bool := fun _ ds => decide (uptoBulkAll ds ≤ 1048576)
def OpenSpec.upto (s : _root_.Go.ChangeSpec) : _root_.Go.OpenSpec := { _root_.Go.OpenSpec.ofChange s with cond := some uptoSmall }

/-- 'poacherlaw13.InjectTells', WHERE WHAT IT READS IS OF BULK AT MOST 1048576: true; the input reads as it did. -/
def injectTellsUptoRow : OpenClaim := { program := "ytppllanmgdhabaa", sum := "269f23c7e10917cd6cf02e6889f3354d4a01433e486000347e2b22a454070189", func := "poacher/poacherlaw13.InjectTells", spec := "injectTells", unfollowed := true, recurses := true, apart := false, narrowed := true }
def InjectTellsUptoSaid : Prop := injectTellsUptoRow.holds Try.pinned (OpenSpec.upto injectTellsSpec)

/-- 'poacherlaw13.InjectOnce', WHERE WHAT IT READS IS OF BULK AT MOST 1048576: true; the input reads as it did. -/
def injectOnceUptoRow : OpenClaim := { program := "ytppllanmgdhabaa", sum := "269f23c7e10917cd6cf02e6889f3354d4a01433e486000347e2b22a454070189", func := "poacher/poacherlaw13.InjectOnce", spec := "injectOnce", unfollowed := true, recurses := true, apart := false, narrowed := true }
def InjectOnceUptoSaid : Prop := injectOnceUptoRow.holds Try.pinned (OpenSpec.upto injectOnceSpec)

/-- 'poacherlaw13.InjectOrder', WHERE WHAT IT READS IS OF BULK AT MOST 1048576: true; the input reads as it did. -/
def injectOrderUptoRow : OpenClaim := { program := "ytppllanmgdhabaa", sum := "269f23c7e10917cd6cf02e6889f3354d4a01433e486000347e2b22a454070189", func := "poacher/poacherlaw13.InjectOrder", spec := "injectOrder", unfollowed := true, recurses := true, apart := false, narrowed := true }
def InjectOrderUptoSaid : Prop := injectOrderUptoRow.holds Try.pinned (OpenSpec.upto injectOrderSpec)

/-- 'poacherlaw13.InjectRoom', WHERE WHAT IT READS IS OF BULK AT MOST 1048576: true; the input reads as it did. -/
def injectRoomUptoRow : OpenClaim := { program := "ytppllanmgdhabaa", sum := "269f23c7e10917cd6cf02e6889f3354d4a01433e486000347e2b22a454070189", func := "poacher/poacherlaw13.InjectRoom", spec := "injectRoom", unfollowed := true, recurses := true, apart := false, narrowed := true }
def InjectRoomUptoSaid : Prop := injectRoomUptoRow.holds Try.pinned (OpenSpec.upto injectRoomSpec)

/-- 'poacherlaw13.InjectFirst', WHERE WHAT IT READS IS OF BULK AT MOST 1048576: true; the input reads as it did. -/
def injectFirstUptoRow : OpenClaim := { program := "ytppllanmgdhabaa", sum := "269f23c7e10917cd6cf02e6889f3354d4a01433e486000347e2b22a454070189", func := "poacher/poacherlaw13.InjectFirst", spec := "injectFirst", unfollowed := true, recurses := true, apart := false, narrowed := true }
def InjectFirstUptoSaid : Prop := injectFirstUptoRow.holds Try.pinned (OpenSpec.upto injectFirstSpec)

/-- 'poacherlaw13.InjectTurn', WHERE WHAT IT READS IS OF BULK AT MOST 1048576: true; the input reads as it did. -/
def injectTurnUptoRow : OpenClaim := { program := "ytppllanmgdhabaa", sum := "269f23c7e10917cd6cf02e6889f3354d4a01433e486000347e2b22a454070189", func := "poacher/poacherlaw13.InjectTurn", spec := "injectTurn", unfollowed := true, recurses := true, apart := false, narrowed := true }
def InjectTurnUptoSaid : Prop := injectTurnUptoRow.holds Try.pinned (OpenSpec.upto injectTurnSpec)

/-- 'poacherlaw13.InjectWho', WHERE WHAT IT READS IS OF BULK AT MOST 1048576: true; the input reads as it did. -/
def injectWhoUptoRow : OpenClaim := { program := "ytppllanmgdhabaa", sum := "269f23c7e10917cd6cf02e6889f3354d4a01433e486000347e2b22a454070189", func := "poacher/poacherlaw13.InjectWho", spec := "injectWho", unfollowed := true, recurses := true, apart := false, narrowed := true }
def InjectWhoUptoSaid : Prop := injectWhoUptoRow.holds Try.pinned (OpenSpec.upto injectWhoSpec)

end Rows
end Go.Proofs.Ytppllanmgdhabaa
