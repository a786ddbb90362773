/-
  No cell of these rows narrows 'for every input' (looked for: loops, veiled, ifaces, maps, wideKeys, modest, calm, conditions, laid).
  DERIVED. THE GIVEN ROWS OF THIS SEAT. 6 by the template 'for every input the law returns true; each argument reads behind the call as it read before'; 0 by the template 'total and deterministic' (their statements: YtjelmaabbediiaaTotals.lean).
  GIVEN WITH THE SEED: the statements are not yours to turn. If you find one false, say at which input.
  Laid BY PROGRAM, IN A SANDBOX (cutbox-rows.mjs): the forced cells as the released guide's own fill.sh prints them over the translation aeb35e01975153b2… (all of the seat's roots in one cut). By AI agents, Wed Nov 11 2026. No macro, syntax, notation, axiom, sorry.
-/
import Derived.Test.YtjelmaabbediiaaChecked
import GoSem.Claim
import GoSem.ClaimJoined
import GoSem.ClaimMapViews
import Derived.JoinedTies
import Derived.KernelRfl
namespace Go.Proofs.Ytjelmaabbediiaa
/- THE CELL 'sum', in the pinned program and in every row, IS THE sha256 OF THE DUMP (.gsa) THAT YtjelmaabbediiaaProg.lean LOADS. Nothing in Lean hashes anything: it is a label: what it is worth is what the hold of that sum in a sandbox is worth. -/
noncomputable def Try.pinned : Pinned := { name := "ytjelmaabbediiaa", sum := "aeb35e01975153b23f1805209dbf0f4c3e4096d15167ae9de79ed7a1d1e47dc2", checked := Try.checked }
namespace Rows
def none {H : Type} : Left H := { results := [], args := [] }

/-- 'reaperlaw04.StackDoes': WHATEVER THE INPUT: true; the input reads as it did. -/
def stackDoesSpec : ChangeSpec := { name := "stackDoes", fn := fun _ => fun
  | [d1, d2, d3, d4] => { results := [.lit (.bool true)], args := [d1, d2, d3, d4] }
  | _ => none }
def stackDoesRow : OpenClaim := { program := "ytjelmaabbediiaa", sum := "aeb35e01975153b23f1805209dbf0f4c3e4096d15167ae9de79ed7a1d1e47dc2", func := "reaper/reaperlaw04.StackDoes", spec := "stackDoes", unfollowed := true, recurses := true, apart := false }
def StackDoesSaid : Prop := stackDoesRow.holds Try.pinned (OpenSpec.ofChange stackDoesSpec)

/-- ITS FALSE NEIGHBOUR: 'it returns false'. Refute it at one input. -/
def stackDoesWrong : ChangeSpec := { name := "stackDoes", fn := fun _ => fun
  | [d1, d2, d3, d4] => { results := [.lit (.bool false)], args := [d1, d2, d3, d4] }
  | _ => none }
def StackDoesWrongFalsely : Prop := stackDoesRow.holds Try.pinned (OpenSpec.ofChange stackDoesWrong)

/-- 'reaperlaw04.StackLast': WHATEVER THE INPUT: true; the input reads as it did. -/
def stackLastSpec : ChangeSpec := { name := "stackLast", fn := fun _ => fun
  | [d1, d2] => { results := [.lit (.bool true)], args := [d1, d2] }
  | _ => none }
def stackLastRow : OpenClaim := { program := "ytjelmaabbediiaa", sum := "aeb35e01975153b23f1805209dbf0f4c3e4096d15167ae9de79ed7a1d1e47dc2", func := "reaper/reaperlaw04.StackLast", spec := "stackLast", unfollowed := true, recurses := true, apart := false }
def StackLastSaid : Prop := stackLastRow.holds Try.pinned (OpenSpec.ofChange stackLastSpec)

/-- ITS FALSE NEIGHBOUR: 'it returns false'. Refute it at one input. -/
def stackLastWrong : ChangeSpec := { name := "stackLast", fn := fun _ => fun
  | [d1, d2] => { results := [.lit (.bool false)], args := [d1, d2] }
  | _ => none }
def StackLastWrongFalsely : Prop := stackLastRow.holds Try.pinned (OpenSpec.ofChange stackLastWrong)

/-- 'reaperlaw04.StackCopy': WHATEVER THE INPUT: true; the input reads as it did. -/
def stackCopySpec : ChangeSpec := { name := "stackCopy", fn := fun _ => fun
  | [d1, d2, d3, d4] => { results := [.lit (.bool true)], args := [d1, d2, d3, d4] }
  | _ => none }
def stackCopyRow : OpenClaim := { program := "ytjelmaabbediiaa", sum := "aeb35e01975153b23f1805209dbf0f4c3e4096d15167ae9de79ed7a1d1e47dc2", func := "reaper/reaperlaw04.StackCopy", spec := "stackCopy", unfollowed := true, recurses := true, apart := false }
def StackCopySaid : Prop := stackCopyRow.holds Try.pinned (OpenSpec.ofChange stackCopySpec)

/-- ITS FALSE NEIGHBOUR: 'it returns false'. Refute it at one input. -/
def stackCopyWrong : ChangeSpec := { name := "stackCopy", fn := fun _ => fun
  | [d1, d2, d3, d4] => { results := [.lit (.bool false)], args := [d1, d2, d3, d4] }
  | _ => none }
def StackCopyWrongFalsely : Prop := stackCopyRow.holds Try.pinned (OpenSpec.ofChange stackCopyWrong)

/-- 'reaperlaw04.StackFull': WHATEVER THE INPUT: true; the input reads as it did. -/
def stackFullSpec : ChangeSpec := { name := "stackFull", fn := fun _ => fun
  | [d1, d2, d3] => { results := [.lit (.bool true)], args := [d1, d2, d3] }
  | _ => none }
def stackFullRow : OpenClaim := { program := "ytjelmaabbediiaa", sum := "aeb35e01975153b23f1805209dbf0f4c3e4096d15167ae9de79ed7a1d1e47dc2", func := "reaper/reaperlaw04.StackFull", spec := "stackFull", unfollowed := true, recurses := true, apart := false }
def StackFullSaid : Prop := stackFullRow.holds Try.pinned (OpenSpec.ofChange stackFullSpec)

/-- ITS FALSE NEIGHBOUR: 'it returns false'. Refute it at one input. -/
def stackFullWrong : ChangeSpec := { name := "stackFull", fn := fun _ => fun
  | [d1, d2, d3] => { results := [.lit (.bool false)], args := [d1, d2, d3] }
  | _ => none }
def StackFullWrongFalsely : Prop := stackFullRow.holds Try.pinned (OpenSpec.ofChange stackFullWrong)

/-- 'reaperlaw04.StackBack': WHATEVER THE INPUT: true; the input reads as it did. -/
def stackBackSpec : ChangeSpec := { name := "stackBack", fn := fun _ => fun
  | [d1, d2, d3] => { results := [.lit (.bool true)], args := [d1, d2, d3] }
  | _ => none }
def stackBackRow : OpenClaim := { program := "ytjelmaabbediiaa", sum := "aeb35e01975153b23f1805209dbf0f4c3e4096d15167ae9de79ed7a1d1e47dc2", func := "reaper/reaperlaw04.StackBack", spec := "stackBack", unfollowed := true, recurses := true, apart := false }
def StackBackSaid : Prop := stackBackRow.holds Try.pinned (OpenSpec.ofChange stackBackSpec)

/-- ITS FALSE NEIGHBOUR: 'it returns false'. Refute it at one input. -/
def stackBackWrong : ChangeSpec := { name := "stackBack", fn := fun _ => fun
  | [d1, d2, d3] => { results := [.lit (.bool false)], args := [d1, d2, d3] }
  | _ => none }
def StackBackWrongFalsely : Prop := stackBackRow.holds Try.pinned (OpenSpec.ofChange stackBackWrong)

/-- 'reaperlaw04.StackMost': WHATEVER THE INPUT: true; the input reads as it did. -/
def stackMostSpec : ChangeSpec := { name := "stackMost", fn := fun _ => fun
  | [d1, d2] => { results := [.lit (.bool true)], args := [d1, d2] }
  | _ => none }
def stackMostRow : OpenClaim := { program := "ytjelmaabbediiaa", sum := "aeb35e01975153b23f1805209dbf0f4c3e4096d15167ae9de79ed7a1d1e47dc2", func := "reaper/reaperlaw04.StackMost", spec := "stackMost", unfollowed := true, recurses := true, apart := false }
def StackMostSaid : Prop := stackMostRow.holds Try.pinned (OpenSpec.ofChange stackMostSpec)

/-- ITS FALSE NEIGHBOUR: 'it returns false'. Refute it at one input. -/
def stackMostWrong : ChangeSpec := { name := "stackMost", fn := fun _ => fun
  | [d1, d2] => { results := [.lit (.bool false)], args := [d1, d2] }
  | _ => none }
def StackMostWrongFalsely : Prop := stackMostRow.holds Try.pinned (OpenSpec.ofChange stackMostWrong)

/- THE SECOND FORM. 'bulk': how many values and letters a reading holds, each counted each time it is reached (what is shared counts as often as it is met; a slice's spare places count too). A statement '..UptoSaid' is the law's where the arguments, and the package variables that the reading takes, are together of bulk at most 1048576: NARROWER than '..Said'. Prove '..Said' where nothing that the law and all that it calls make is longer than what came in: it says more and counts as full. Else prove '..UptoSaid'. A law counts once. -/
mutual
def uptoBulk {H : Type} : DataW H → Nat
  | .lit (.string bytes) => bytes.length + 1
  | .lit _ => 1
  | .nil => 1
  | .ptr d => uptoBulk d + 1
  | .slice elems spare => uptoBulkAll elems + uptoBulkAll spare + 1
  | .agg parts => uptoBulkAll parts + 1
  | .iface _ d => uptoBulk d + 1
  | .map entries => uptoBulkEntries entries + 1
  | .held _ => 1
def uptoBulkAll {H : Type} : List (DataW H) → Nat
  | [] => 0
  | d :: r => uptoBulk d + uptoBulkAll r
def uptoBulkEntries {H : Type} : List (Lit × DataW H) → Nat
  | [] => 0
  | x :: r => uptoBulkEntry x + uptoBulkEntries r
def uptoBulkEntry {H : Type} : Lit × DataW H → Nat
  | (.string bytes, d) => bytes.length + uptoBulk d + 1
  | (_, d) => uptoBulk d + 1
 end
def uptoSmall : (H : Type) → List (DataW H) → Bool := fun _ ds => decide (uptoBulkAll ds ≤ 1048576)
def OpenSpec.upto (s : _root_.Go.ChangeSpec) : _root_.Go.OpenSpec := { _root_.Go.OpenSpec.ofChange s with cond := some uptoSmall }

/-- 'reaperlaw04.StackDoes', WHERE WHAT IT READS IS OF BULK AT MOST 1048576: true; the input reads as it did. -/
def stackDoesUptoRow : OpenClaim := { program := "ytjelmaabbediiaa", sum := "aeb35e01975153b23f1805209dbf0f4c3e4096d15167ae9de79ed7a1d1e47dc2", func := "reaper/reaperlaw04.StackDoes", spec := "stackDoes", unfollowed := true, recurses := true, apart := false, narrowed := true }
def StackDoesUptoSaid : Prop := stackDoesUptoRow.holds Try.pinned (OpenSpec.upto stackDoesSpec)

/-- 'reaperlaw04.StackLast', WHERE WHAT IT READS IS OF BULK AT MOST 1048576: true; the input reads as it did. -/
def stackLastUptoRow : OpenClaim := { program := "ytjelmaabbediiaa", sum := "aeb35e01975153b23f1805209dbf0f4c3e4096d15167ae9de79ed7a1d1e47dc2", func := "reaper/reaperlaw04.StackLast", spec := "stackLast", unfollowed := true, recurses := true, apart := false, narrowed := true }
def StackLastUptoSaid : Prop := stackLastUptoRow.holds Try.pinned (OpenSpec.upto stackLastSpec)

/-- 'reaperlaw04.StackCopy', WHERE WHAT IT READS IS OF BULK AT MOST 1048576: true; the input reads as it did. -/
def stackCopyUptoRow : OpenClaim := { program := "ytjelmaabbediiaa", sum := "aeb35e01975153b23f1805209dbf0f4c3e4096d15167ae9de79ed7a1d1e47dc2", func := "reaper/reaperlaw04.StackCopy", spec := "stackCopy", unfollowed := true, recurses := true, apart := false, narrowed := true }
def StackCopyUptoSaid : Prop := stackCopyUptoRow.holds Try.pinned (OpenSpec.upto stackCopySpec)

/-- 'reaperlaw04.StackFull', WHERE WHAT IT READS IS OF BULK AT MOST 1048576: true; the input reads as it did. -/
def stackFullUptoRow : OpenClaim := { program := "ytjelmaabbediiaa", sum := "aeb35e01975153b23f1805209dbf0f4c3e4096d15167ae9de79ed7a1d1e47dc2", func := "reaper/reaperlaw04.StackFull", spec := "stackFull", unfollowed := true, recurses := true, apart := false, narrowed := true }
def StackFullUptoSaid : Prop := stackFullUptoRow.holds Try.pinned (OpenSpec.upto stackFullSpec)

/-- 'reaperlaw04.StackBack', WHERE WHAT IT READS IS OF BULK AT MOST 1048576: true; the input reads as it did. -/
def stackBackUptoRow : OpenClaim := { program := "ytjelmaabbediiaa", sum := "aeb35e01975153b23f1805209dbf0f4c3e4096d15167ae9de79ed7a1d1e47dc2", func := "reaper/reaperlaw04.StackBack", spec := "stackBack", unfollowed := true, recurses := true, apart := false, narrowed := true }
def StackBackUptoSaid : Prop := stackBackUptoRow.holds Try.pinned (OpenSpec.upto stackBackSpec)

/-- 'reaperlaw04.StackMost', WHERE WHAT IT READS IS OF BULK AT MOST 1048576: true; the input reads as it did. -/
def stackMostUptoRow : OpenClaim := { program := "ytjelmaabbediiaa", sum := "aeb35e01975153b23f1805209dbf0f4c3e4096d15167ae9de79ed7a1d1e47dc2", func := "reaper/reaperlaw04.StackMost", spec := "stackMost", unfollowed := true, recurses := true, apart := false, narrowed := true }
def StackMostUptoSaid : Prop := stackMostUptoRow.holds Try.pinned (OpenSpec.upto stackMostSpec)

end Rows
end Go.Proofs.Ytjelmaabbediiaa
