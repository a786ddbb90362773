/-
  No cell of these rows narrows 'for every input' (looked for: loops, veiled, ifaces, maps, wideKeys, modest, calm, conditions, laid).
  DERIVED. THE GIVEN ROWS OF THIS SEAT. 6 by the template 'for every input the law returns true; each argument reads behind the call as it read before'; 0 by the template 'total and deterministic' (their statements: YtfnjbbokbdddpaaTotals.lean).
  GIVEN WITH THE SEED: the statements are not yours to turn. If you find one false, say at which input.
  Laid BY PROGRAM, IN A SANDBOX (cutbox-rows.mjs): the forced cells as the released guide's own fill.sh prints them over the translation 7c6e4ff0a9c17309… (all of the seat's roots in one cut). By AI agents, Wed Nov 11 2026. No macro, syntax, notation, axiom, sorry.
-/
import Derived.Test.YtfnjbbokbdddpaaChecked
import GoSem.Claim
import GoSem.ClaimJoined
import GoSem.ClaimMapViews
import Derived.JoinedTies
import Derived.KernelRfl
namespace Go.Proofs.Ytfnjbbokbdddpaa
/- THE CELL 'sum', in the pinned program and in every row, IS THE sha256 OF THE DUMP (.gsa) THAT YtfnjbbokbdddpaaProg.lean LOADS. Nothing in Lean hashes anything: it is a label: what it is worth is what the hold of that sum in a sandbox is worth. -/
noncomputable def Try.pinned : Pinned := { name := "ytfnjbbokbdddpaa", sum := "7c6e4ff0a9c17309819760c6f0af51195b2dbae10e30956d562d6fe0366e505b", checked := Try.checked }
namespace Rows
def none {H : Type} : Left H := { results := [], args := [] }

/-- 'reaperlaw17.SweepSteps': WHATEVER THE INPUT: true; the input reads as it did. -/
def sweepStepsSpec : ChangeSpec := { name := "sweepSteps", fn := fun _ => fun
  | [d1, d2, d3, d4, d5] => { results := [.lit (.bool true)], args := [d1, d2, d3, d4, d5] }
  | _ => none }
def sweepStepsRow : OpenClaim := { program := "ytfnjbbokbdddpaa", sum := "7c6e4ff0a9c17309819760c6f0af51195b2dbae10e30956d562d6fe0366e505b", func := "reaper/reaperlaw17.SweepSteps", spec := "sweepSteps", unfollowed := true, recurses := true, apart := false }
def SweepStepsSaid : Prop := sweepStepsRow.holds Try.pinned (OpenSpec.ofChange sweepStepsSpec)

/-- ITS FALSE NEIGHBOUR: 'it returns false'. Refute it at one input. -/
def sweepStepsWrong : ChangeSpec := { name := "sweepSteps", fn := fun _ => fun
  | [d1, d2, d3, d4, d5] => { results := [.lit (.bool false)], args := [d1, d2, d3, d4, d5] }
  | _ => none }
def SweepStepsWrongFalsely : Prop := sweepStepsRow.holds Try.pinned (OpenSpec.ofChange sweepStepsWrong)

/-- 'reaperlaw17.SweepRuns': WHATEVER THE INPUT: true; the input reads as it did. -/
def sweepRunsSpec : ChangeSpec := { name := "sweepRuns", fn := fun _ => fun
  | [d1, d2, d3, d4] => { results := [.lit (.bool true)], args := [d1, d2, d3, d4] }
  | _ => none }
def sweepRunsRow : OpenClaim := { program := "ytfnjbbokbdddpaa", sum := "7c6e4ff0a9c17309819760c6f0af51195b2dbae10e30956d562d6fe0366e505b", func := "reaper/reaperlaw17.SweepRuns", spec := "sweepRuns", unfollowed := true, recurses := true, apart := false }
def SweepRunsSaid : Prop := sweepRunsRow.holds Try.pinned (OpenSpec.ofChange sweepRunsSpec)

/-- ITS FALSE NEIGHBOUR: 'it returns false'. Refute it at one input. -/
def sweepRunsWrong : ChangeSpec := { name := "sweepRuns", fn := fun _ => fun
  | [d1, d2, d3, d4] => { results := [.lit (.bool false)], args := [d1, d2, d3, d4] }
  | _ => none }
def SweepRunsWrongFalsely : Prop := sweepRunsRow.holds Try.pinned (OpenSpec.ofChange sweepRunsWrong)

/-- 'reaperlaw17.SweepTakes': WHATEVER THE INPUT: true; the input reads as it did. -/
def sweepTakesSpec : ChangeSpec := { name := "sweepTakes", fn := fun _ => fun
  | [d1, d2, d3, d4] => { results := [.lit (.bool true)], args := [d1, d2, d3, d4] }
  | _ => none }
def sweepTakesRow : OpenClaim := { program := "ytfnjbbokbdddpaa", sum := "7c6e4ff0a9c17309819760c6f0af51195b2dbae10e30956d562d6fe0366e505b", func := "reaper/reaperlaw17.SweepTakes", spec := "sweepTakes", unfollowed := true, recurses := true, apart := false }
def SweepTakesSaid : Prop := sweepTakesRow.holds Try.pinned (OpenSpec.ofChange sweepTakesSpec)

/-- ITS FALSE NEIGHBOUR: 'it returns false'. Refute it at one input. -/
def sweepTakesWrong : ChangeSpec := { name := "sweepTakes", fn := fun _ => fun
  | [d1, d2, d3, d4] => { results := [.lit (.bool false)], args := [d1, d2, d3, d4] }
  | _ => none }
def SweepTakesWrongFalsely : Prop := sweepTakesRow.holds Try.pinned (OpenSpec.ofChange sweepTakesWrong)

/-- 'reaperlaw17.SweepTwice': WHATEVER THE INPUT: true; the input reads as it did. -/
def sweepTwiceSpec : ChangeSpec := { name := "sweepTwice", fn := fun _ => fun
  | [d1, d2, d3, d4] => { results := [.lit (.bool true)], args := [d1, d2, d3, d4] }
  | _ => none }
def sweepTwiceRow : OpenClaim := { program := "ytfnjbbokbdddpaa", sum := "7c6e4ff0a9c17309819760c6f0af51195b2dbae10e30956d562d6fe0366e505b", func := "reaper/reaperlaw17.SweepTwice", spec := "sweepTwice", unfollowed := true, recurses := true, apart := false }
def SweepTwiceSaid : Prop := sweepTwiceRow.holds Try.pinned (OpenSpec.ofChange sweepTwiceSpec)

/-- ITS FALSE NEIGHBOUR: 'it returns false'. Refute it at one input. -/
def sweepTwiceWrong : ChangeSpec := { name := "sweepTwice", fn := fun _ => fun
  | [d1, d2, d3, d4] => { results := [.lit (.bool false)], args := [d1, d2, d3, d4] }
  | _ => none }
def SweepTwiceWrongFalsely : Prop := sweepTwiceRow.holds Try.pinned (OpenSpec.ofChange sweepTwiceWrong)

/-- 'reaperlaw17.SweepLate': WHATEVER THE INPUT: true; the input reads as it did. -/
def sweepLateSpec : ChangeSpec := { name := "sweepLate", fn := fun _ => fun
  | [d1, d2, d3, d4] => { results := [.lit (.bool true)], args := [d1, d2, d3, d4] }
  | _ => none }
def sweepLateRow : OpenClaim := { program := "ytfnjbbokbdddpaa", sum := "7c6e4ff0a9c17309819760c6f0af51195b2dbae10e30956d562d6fe0366e505b", func := "reaper/reaperlaw17.SweepLate", spec := "sweepLate", unfollowed := true, recurses := true, apart := false }
def SweepLateSaid : Prop := sweepLateRow.holds Try.pinned (OpenSpec.ofChange sweepLateSpec)

/-- ITS FALSE NEIGHBOUR: 'it returns false'. Refute it at one input. -/
def sweepLateWrong : ChangeSpec := { name := "sweepLate", fn := fun _ => fun
  | [d1, d2, d3, d4] => { results := [.lit (.bool false)], args := [d1, d2, d3, d4] }
  | _ => none }
def SweepLateWrongFalsely : Prop := sweepLateRow.holds Try.pinned (OpenSpec.ofChange sweepLateWrong)

/-- 'reaperlaw17.SweepNone': WHATEVER THE INPUT: true; the input reads as it did. -/
def sweepNoneSpec : ChangeSpec := { name := "sweepNone", fn := fun _ => fun
  | [d1, d2, d3] => { results := [.lit (.bool true)], args := [d1, d2, d3] }
  | _ => none }
def sweepNoneRow : OpenClaim := { program := "ytfnjbbokbdddpaa", sum := "7c6e4ff0a9c17309819760c6f0af51195b2dbae10e30956d562d6fe0366e505b", func := "reaper/reaperlaw17.SweepNone", spec := "sweepNone", unfollowed := true, recurses := true, apart := false }
def SweepNoneSaid : Prop := sweepNoneRow.holds Try.pinned (OpenSpec.ofChange sweepNoneSpec)

/-- ITS FALSE NEIGHBOUR: 'it returns false'. Refute it at one input. -/
def sweepNoneWrong : ChangeSpec := { name := "sweepNone", fn := fun _ => fun
  | [d1, d2, d3] => { results := [.lit (.bool false)], args := [d1, d2, d3] }
  | _ => none }
def SweepNoneWrongFalsely : Prop := sweepNoneRow.holds Try.pinned (OpenSpec.ofChange sweepNoneWrong)

/- THE SECOND FORM. 'bulk': how many values and letters a reading holds, each counted each time it is reached (what is shared counts as often as it is met; a slice's spare places count too). A statement '..UptoSaid' is the law's where the arguments, and the package variables that the reading takes, are together of bulk at most 1048576: NARROWER than '..Said'. Prove '..Said' where nothing that the law and all that it calls make is longer than what came in: it says more and counts as full. Else prove '..UptoSaid'. A law counts once. -/
mutual
def uptoBulk {H : Type} : DataW H → Nat
  | .lit (.string bytes) => bytes.length + 1
  | .lit _ => 1
  | .nil => 1
  | .ptr d => uptoBulk d + 1
  | .slice elems spare => uptoBulkAll elems + uptoBulkAll spare + 1
  | .agg parts => uptoBulkAll parts + 1
  | .iface _ d => uptoBulk d + 1
  | .map entries => uptoBulkEntries entries + 1
  | .held _ => 1
def uptoBulkAll {H : Type} : List (DataW H) → Nat
  | [] => 0
  | d :: r => uptoBulk d + uptoBulkAll r
def uptoBulkEntries {H : Type} : List (Lit × DataW H) → Nat
  | [] => 0
  | x :: r => uptoBulkEntry x + uptoBulkEntries r
def uptoBulkEntry {H : Type} : Lit × DataW H → Nat
  | (.string bytes, d) => bytes.length + uptoBulk d + 1
  | (_, d) => uptoBulk d + 1
 end
def uptoSmall : (H : Type) → List (DataW H) → Bool := fun _ ds => decide (uptoBulkAll ds ≤ 1048576)
def OpenSpec.upto (s : _root_.Go.ChangeSpec) : _root_.Go.OpenSpec := { _root_.Go.OpenSpec.ofChange s with cond := some uptoSmall }

/-- 'reaperlaw17.SweepSteps', WHERE WHAT IT READS IS OF BULK AT MOST 1048576: true; the input reads as it did. -/
def sweepStepsUptoRow : OpenClaim := { program := "ytfnjbbokbdddpaa", sum := "7c6e4ff0a9c17309819760c6f0af51195b2dbae10e30956d562d6fe0366e505b", func := "reaper/reaperlaw17.SweepSteps", spec := "sweepSteps", unfollowed := true, recurses := true, apart := false, narrowed := true }
def SweepStepsUptoSaid : Prop := sweepStepsUptoRow.holds Try.pinned (OpenSpec.upto sweepStepsSpec)

/-- 'reaperlaw17.SweepRuns', WHERE WHAT IT READS IS OF BULK AT MOST 1048576: true; the input reads as it did. -/
def sweepRunsUptoRow : OpenClaim := { program := "ytfnjbbokbdddpaa", sum := "7c6e4ff0a9c17309819760c6f0af51195b2dbae10e30956d562d6fe0366e505b", func := "reaper/reaperlaw17.SweepRuns", spec := "sweepRuns", unfollowed := true, recurses := true, apart := false, narrowed := true }
def SweepRunsUptoSaid : Prop := sweepRunsUptoRow.holds Try.pinned (OpenSpec.upto sweepRunsSpec)

/-- 'reaperlaw17.SweepTakes', WHERE WHAT IT READS IS OF BULK AT MOST 1048576: true; the input reads as it did. -/
def sweepTakesUptoRow : OpenClaim := { program := "ytfnjbbokbdddpaa", sum := "7c6e4ff0a9c17309819760c6f0af51195b2dbae10e30956d562d6fe0366e505b", func := "reaper/reaperlaw17.SweepTakes", spec := "sweepTakes", unfollowed := true, recurses := true, apart := false, narrowed := true }
def SweepTakesUptoSaid : Prop := sweepTakesUptoRow.holds Try.pinned (OpenSpec.upto sweepTakesSpec)

/-- 'reaperlaw17.SweepTwice', WHERE WHAT IT READS IS OF BULK AT MOST 1048576: true; the input reads as it did. -/
def sweepTwiceUptoRow : OpenClaim := { program := "ytfnjbbokbdddpaa", sum := "7c6e4ff0a9c17309819760c6f0af51195b2dbae10e30956d562d6fe0366e505b", func := "reaper/reaperlaw17.SweepTwice", spec := "sweepTwice", unfollowed := true, recurses := true, apart := false, narrowed := true }
def SweepTwiceUptoSaid : Prop := sweepTwiceUptoRow.holds Try.pinned (OpenSpec.upto sweepTwiceSpec)

/-- 'reaperlaw17.SweepLate', WHERE WHAT IT READS IS OF BULK AT MOST 1048576: true; the input reads as it did. -/
def sweepLateUptoRow : OpenClaim := { program := "ytfnjbbokbdddpaa", sum := "7c6e4ff0a9c17309819760c6f0af51195b2dbae10e30956d562d6fe0366e505b", func := "reaper/reaperlaw17.SweepLate", spec := "sweepLate", unfollowed := true, recurses := true, apart := false, narrowed := true }
def SweepLateUptoSaid : Prop := sweepLateUptoRow.holds Try.pinned (OpenSpec.upto sweepLateSpec)

/-- 'reaperlaw17.SweepNone', WHERE WHAT IT READS IS OF BULK AT MOST 1048576: true; the input reads as it did. -/
def sweepNoneUptoRow : OpenClaim := { program := "ytfnjbbokbdddpaa", sum := "7c6e4ff0a9c17309819760c6f0af51195b2dbae10e30956d562d6fe0366e505b", func := "reaper/reaperlaw17.SweepNone", spec := "sweepNone", unfollowed := true, recurses := true, apart := false, narrowed := true }
def SweepNoneUptoSaid : Prop := sweepNoneUptoRow.holds Try.pinned (OpenSpec.upto sweepNoneSpec)

end Rows
end Go.Proofs.Ytfnjbbokbdddpaa
