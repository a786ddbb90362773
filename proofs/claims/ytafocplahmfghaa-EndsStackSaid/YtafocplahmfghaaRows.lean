/-
  No cell of these rows narrows 'for every input' (looked for: loops, veiled, ifaces, maps, wideKeys, modest, calm, conditions, laid).
  DERIVED. THE GIVEN ROWS OF THIS SEAT. 7 by the template 'for every input the law returns true; each argument reads behind the call as it read before'; 0 by the template 'total and deterministic' (their statements: YtafocplahmfghaaTotals.lean).
  GIVEN WITH THE SEED: the statements are not yours to turn. If you find one false, say at which input.
  Laid BY PROGRAM, IN A SANDBOX (cutbox-rows.mjs): the forced cells as the released guide's own fill.sh prints them over the translation 38ec8a7f3d91610c… (all of the seat's roots in one cut). By AI agents, Wed Nov 11 2026. No macro, syntax, notation, axiom, sorry.
-/
import Derived.Test.YtafocplahmfghaaChecked
import GoSem.Claim
import GoSem.ClaimJoined
import GoSem.ClaimMapViews
import Derived.JoinedTies
import Derived.KernelRfl
namespace Go.Proofs.Ytafocplahmfghaa
/- THE CELL 'sum', in the pinned program and in every row, IS THE sha256 OF THE DUMP (.gsa) THAT YtafocplahmfghaaProg.lean LOADS. Nothing in Lean hashes anything: it is a label: what it is worth is what the hold of that sum in a sandbox is worth. -/
noncomputable def Try.pinned : Pinned := { name := "ytafocplahmfghaa", sum := "38ec8a7f3d91610cc5e5cceb163424cb69e8b96f9b5454cd7b5e0a8bd82c3533", checked := Try.checked }
namespace Rows
def none {H : Type} : Left H := { results := [], args := [] }

/-- 'reaperlaw10.EndsPairs': WHATEVER THE INPUT: true; the input reads as it did. -/
def endsPairsSpec : ChangeSpec := { name := "endsPairs", fn := fun _ => fun
  | [d1, d2, d3, d4, d5] => { results := [.lit (.bool true)], args := [d1, d2, d3, d4, d5] }
  | _ => none }
def endsPairsRow : OpenClaim := { program := "ytafocplahmfghaa", sum := "38ec8a7f3d91610cc5e5cceb163424cb69e8b96f9b5454cd7b5e0a8bd82c3533", func := "reaper/reaperlaw10.EndsPairs", spec := "endsPairs", unfollowed := true, recurses := true, apart := false }
def EndsPairsSaid : Prop := endsPairsRow.holds Try.pinned (OpenSpec.ofChange endsPairsSpec)

/-- ITS FALSE NEIGHBOUR: 'it returns false'. Refute it at one input. -/
def endsPairsWrong : ChangeSpec := { name := "endsPairs", fn := fun _ => fun
  | [d1, d2, d3, d4, d5] => { results := [.lit (.bool false)], args := [d1, d2, d3, d4, d5] }
  | _ => none }
def EndsPairsWrongFalsely : Prop := endsPairsRow.holds Try.pinned (OpenSpec.ofChange endsPairsWrong)

/-- 'reaperlaw10.EndsSame': WHATEVER THE INPUT: true; the input reads as it did. -/
def endsSameSpec : ChangeSpec := { name := "endsSame", fn := fun _ => fun
  | [d1, d2, d3, d4, d5] => { results := [.lit (.bool true)], args := [d1, d2, d3, d4, d5] }
  | _ => none }
def endsSameRow : OpenClaim := { program := "ytafocplahmfghaa", sum := "38ec8a7f3d91610cc5e5cceb163424cb69e8b96f9b5454cd7b5e0a8bd82c3533", func := "reaper/reaperlaw10.EndsSame", spec := "endsSame", unfollowed := true, recurses := true, apart := false }
def EndsSameSaid : Prop := endsSameRow.holds Try.pinned (OpenSpec.ofChange endsSameSpec)

/-- ITS FALSE NEIGHBOUR: 'it returns false'. Refute it at one input. -/
def endsSameWrong : ChangeSpec := { name := "endsSame", fn := fun _ => fun
  | [d1, d2, d3, d4, d5] => { results := [.lit (.bool false)], args := [d1, d2, d3, d4, d5] }
  | _ => none }
def EndsSameWrongFalsely : Prop := endsSameRow.holds Try.pinned (OpenSpec.ofChange endsSameWrong)

/-- 'reaperlaw10.EndsMeets': WHATEVER THE INPUT: true; the input reads as it did. -/
def endsMeetsSpec : ChangeSpec := { name := "endsMeets", fn := fun _ => fun
  | [d1, d2, d3] => { results := [.lit (.bool true)], args := [d1, d2, d3] }
  | _ => none }
def endsMeetsRow : OpenClaim := { program := "ytafocplahmfghaa", sum := "38ec8a7f3d91610cc5e5cceb163424cb69e8b96f9b5454cd7b5e0a8bd82c3533", func := "reaper/reaperlaw10.EndsMeets", spec := "endsMeets", unfollowed := true, recurses := true, apart := false }
def EndsMeetsSaid : Prop := endsMeetsRow.holds Try.pinned (OpenSpec.ofChange endsMeetsSpec)

/-- ITS FALSE NEIGHBOUR: 'it returns false'. Refute it at one input. -/
def endsMeetsWrong : ChangeSpec := { name := "endsMeets", fn := fun _ => fun
  | [d1, d2, d3] => { results := [.lit (.bool false)], args := [d1, d2, d3] }
  | _ => none }
def EndsMeetsWrongFalsely : Prop := endsMeetsRow.holds Try.pinned (OpenSpec.ofChange endsMeetsWrong)

/-- 'reaperlaw10.EndsTurned': WHATEVER THE INPUT: true; the input reads as it did. -/
def endsTurnedSpec : ChangeSpec := { name := "endsTurned", fn := fun _ => fun
  | [d1, d2, d3] => { results := [.lit (.bool true)], args := [d1, d2, d3] }
  | _ => none }
def endsTurnedRow : OpenClaim := { program := "ytafocplahmfghaa", sum := "38ec8a7f3d91610cc5e5cceb163424cb69e8b96f9b5454cd7b5e0a8bd82c3533", func := "reaper/reaperlaw10.EndsTurned", spec := "endsTurned", unfollowed := true, recurses := true, apart := false }
def EndsTurnedSaid : Prop := endsTurnedRow.holds Try.pinned (OpenSpec.ofChange endsTurnedSpec)

/-- ITS FALSE NEIGHBOUR: 'it returns false'. Refute it at one input. -/
def endsTurnedWrong : ChangeSpec := { name := "endsTurned", fn := fun _ => fun
  | [d1, d2, d3] => { results := [.lit (.bool false)], args := [d1, d2, d3] }
  | _ => none }
def EndsTurnedWrongFalsely : Prop := endsTurnedRow.holds Try.pinned (OpenSpec.ofChange endsTurnedWrong)

/-- 'reaperlaw10.EndsStack': WHATEVER THE INPUT: true; the input reads as it did. -/
def endsStackSpec : ChangeSpec := { name := "endsStack", fn := fun _ => fun
  | [d1, d2, d3, d4] => { results := [.lit (.bool true)], args := [d1, d2, d3, d4] }
  | _ => none }
def endsStackRow : OpenClaim := { program := "ytafocplahmfghaa", sum := "38ec8a7f3d91610cc5e5cceb163424cb69e8b96f9b5454cd7b5e0a8bd82c3533", func := "reaper/reaperlaw10.EndsStack", spec := "endsStack", unfollowed := true, recurses := true, apart := false }
def EndsStackSaid : Prop := endsStackRow.holds Try.pinned (OpenSpec.ofChange endsStackSpec)

/-- ITS FALSE NEIGHBOUR: 'it returns false'. Refute it at one input. -/
def endsStackWrong : ChangeSpec := { name := "endsStack", fn := fun _ => fun
  | [d1, d2, d3, d4] => { results := [.lit (.bool false)], args := [d1, d2, d3, d4] }
  | _ => none }
def EndsStackWrongFalsely : Prop := endsStackRow.holds Try.pinned (OpenSpec.ofChange endsStackWrong)

/-- 'reaperlaw10.EndsQueue': WHATEVER THE INPUT: true; the input reads as it did. -/
def endsQueueSpec : ChangeSpec := { name := "endsQueue", fn := fun _ => fun
  | [d1, d2] => { results := [.lit (.bool true)], args := [d1, d2] }
  | _ => none }
def endsQueueRow : OpenClaim := { program := "ytafocplahmfghaa", sum := "38ec8a7f3d91610cc5e5cceb163424cb69e8b96f9b5454cd7b5e0a8bd82c3533", func := "reaper/reaperlaw10.EndsQueue", spec := "endsQueue", unfollowed := true, recurses := true, apart := false }
def EndsQueueSaid : Prop := endsQueueRow.holds Try.pinned (OpenSpec.ofChange endsQueueSpec)

/-- ITS FALSE NEIGHBOUR: 'it returns false'. Refute it at one input. -/
def endsQueueWrong : ChangeSpec := { name := "endsQueue", fn := fun _ => fun
  | [d1, d2] => { results := [.lit (.bool false)], args := [d1, d2] }
  | _ => none }
def EndsQueueWrongFalsely : Prop := endsQueueRow.holds Try.pinned (OpenSpec.ofChange endsQueueWrong)

/-- 'reaperlaw10.EndsFront': WHATEVER THE INPUT: true; the input reads as it did. -/
def endsFrontSpec : ChangeSpec := { name := "endsFront", fn := fun _ => fun
  | [d1, d2, d3, d4] => { results := [.lit (.bool true)], args := [d1, d2, d3, d4] }
  | _ => none }
def endsFrontRow : OpenClaim := { program := "ytafocplahmfghaa", sum := "38ec8a7f3d91610cc5e5cceb163424cb69e8b96f9b5454cd7b5e0a8bd82c3533", func := "reaper/reaperlaw10.EndsFront", spec := "endsFront", unfollowed := true, recurses := true, apart := false }
def EndsFrontSaid : Prop := endsFrontRow.holds Try.pinned (OpenSpec.ofChange endsFrontSpec)

/-- ITS FALSE NEIGHBOUR: 'it returns false'. Refute it at one input. -/
def endsFrontWrong : ChangeSpec := { name := "endsFront", fn := fun _ => fun
  | [d1, d2, d3, d4] => { results := [.lit (.bool false)], args := [d1, d2, d3, d4] }
  | _ => none }
def EndsFrontWrongFalsely : Prop := endsFrontRow.holds Try.pinned (OpenSpec.ofChange endsFrontWrong)

/- THE SECOND FORM. 'bulk': how many values and letters a reading holds, each counted each time it is reached (what is shared counts as often as it is met; a slice's spare places count too). A statement '..UptoSaid' is the law's where the arguments, and the package variables that the reading takes, are together of bulk at most 1048576: NARROWER than '..Said'. Prove '..Said' where nothing that the law and all that it calls make is longer than what came in: it says more and counts as full. Else prove '..UptoSaid'. A law counts once. -/
mutual
def uptoBulk {H : Type} : DataW H → Nat
  | .lit (.string bytes) => bytes.length + 1
  | .lit _ => 1
  | .nil => 1
  | .ptr d => uptoBulk d + 1
  | .slice elems spare => uptoBulkAll elems + uptoBulkAll spare + 1
  | .agg parts => uptoBulkAll parts + 1
  | .iface _ d => uptoBulk d + 1
  | .map entries => uptoBulkEntries entries + 1
  | .held _ => 1
def uptoBulkAll {H : Type} : List (DataW H) → Nat
  | [] => 0
  | d :: r => uptoBulk d + uptoBulkAll r
def uptoBulkEntries {H : Type} : List (Lit × DataW H) → Nat
  | [] => 0
  | x :: r => uptoBulkEntry x + uptoBulkEntries r
def uptoBulkEntry {H : Type} : Lit × DataW H → Nat
  | (.string bytes, d) => bytes.length + uptoBulk d + 1
  | (_, d) => uptoBulk d + 1
 end
def uptoSmall : (H : Type) → List (DataW H) → Bool := fun _ ds => decide (uptoBulkAll ds ≤ 1048576)
def OpenSpec.upto (s : _root_.Go.ChangeSpec) : _root_.Go.OpenSpec := { _root_.Go.OpenSpec.ofChange s with cond := some uptoSmall }

/-- 'reaperlaw10.EndsPairs', WHERE WHAT IT READS IS OF BULK AT MOST 1048576: true; the input reads as it did. -/
def endsPairsUptoRow : OpenClaim := { program := "ytafocplahmfghaa", sum := "38ec8a7f3d91610cc5e5cceb163424cb69e8b96f9b5454cd7b5e0a8bd82c3533", func := "reaper/reaperlaw10.EndsPairs", spec := "endsPairs", unfollowed := true, recurses := true, apart := false, narrowed := true }
def EndsPairsUptoSaid : Prop := endsPairsUptoRow.holds Try.pinned (OpenSpec.upto endsPairsSpec)

/-- 'reaperlaw10.EndsSame', WHERE WHAT IT READS IS OF BULK AT MOST 1048576: true; the input reads as it did. -/
def endsSameUptoRow : OpenClaim := { program := "ytafocplahmfghaa", sum := "38ec8a7f3d91610cc5e5cceb163424cb69e8b96f9b5454cd7b5e0a8bd82c3533", func := "reaper/reaperlaw10.EndsSame", spec := "endsSame", unfollowed := true, recurses := true, apart := false, narrowed := true }
def EndsSameUptoSaid : Prop := endsSameUptoRow.holds Try.pinned (OpenSpec.upto endsSameSpec)

/-- 'reaperlaw10.EndsMeets', WHERE WHAT IT READS IS OF BULK AT MOST 1048576: true; the input reads as it did. -/
def endsMeetsUptoRow : OpenClaim := { program := "ytafocplahmfghaa", sum := "38ec8a7f3d91610cc5e5cceb163424cb69e8b96f9b5454cd7b5e0a8bd82c3533", func := "reaper/reaperlaw10.EndsMeets", spec := "endsMeets", unfollowed := true, recurses := true, apart := false, narrowed := true }
def EndsMeetsUptoSaid : Prop := endsMeetsUptoRow.holds Try.pinned (OpenSpec.upto endsMeetsSpec)

/-- 'reaperlaw10.EndsTurned', WHERE WHAT IT READS IS OF BULK AT MOST 1048576: true; the input reads as it did. -/
def endsTurnedUptoRow : OpenClaim := { program := "ytafocplahmfghaa", sum := "38ec8a7f3d91610cc5e5cceb163424cb69e8b96f9b5454cd7b5e0a8bd82c3533", func := "reaper/reaperlaw10.EndsTurned", spec := "endsTurned", unfollowed := true, recurses := true, apart := false, narrowed := true }
def EndsTurnedUptoSaid : Prop := endsTurnedUptoRow.holds Try.pinned (OpenSpec.upto endsTurnedSpec)

/-- 'reaperlaw10.EndsStack', WHERE WHAT IT READS IS OF BULK AT MOST 1048576: true; the input reads as it did. -/
def endsStackUptoRow : OpenClaim := { program := "ytafocplahmfghaa", sum := "38ec8a7f3d91610cc5e5cceb163424cb69e8b96f9b5454cd7b5e0a8bd82c3533", func := "reaper/reaperlaw10.EndsStack", spec := "endsStack", unfollowed := true, recurses := true, apart := false, narrowed := true }
def EndsStackUptoSaid : Prop := endsStackUptoRow.holds Try.pinned (OpenSpec.upto endsStackSpec)

/-- 'reaperlaw10.EndsQueue', WHERE WHAT IT READS IS OF BULK AT MOST 1048576: true; the input reads as it did. -/
def endsQueueUptoRow : OpenClaim := { program := "ytafocplahmfghaa", sum := "38ec8a7f3d91610cc5e5cceb163424cb69e8b96f9b5454cd7b5e0a8bd82c3533", func := "reaper/reaperlaw10.EndsQueue", spec := "endsQueue", unfollowed := true, recurses := true, apart := false, narrowed := true }
def EndsQueueUptoSaid : Prop := endsQueueUptoRow.holds Try.pinned (OpenSpec.upto endsQueueSpec)

/-- 'reaperlaw10.EndsFront', WHERE WHAT IT READS IS OF BULK AT MOST 1048576: true; the input reads as it did. -/
def endsFrontUptoRow : OpenClaim := { program := "ytafocplahmfghaa", sum := "38ec8a7f3d91610cc5e5cceb163424cb69e8b96f9b5454cd7b5e0a8bd82c3533", func := "reaper/reaperlaw10.EndsFront", spec := "endsFront", unfollowed := true, recurses := true, apart := false, narrowed := true }
def EndsFrontUptoSaid : Prop := endsFrontUptoRow.holds Try.pinned (OpenSpec.upto endsFrontSpec)

end Rows
end Go.Proofs.Ytafocplahmfghaa
