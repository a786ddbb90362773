/-
  No cell of these rows narrows 'for every input' (looked for: loops, veiled, ifaces, maps, wideKeys, modest, calm, conditions, laid).
  DERIVED. THE GIVEN ROWS OF THIS SEAT. 6 by the template 'for every input the law returns true; each argument reads behind the call as it read before'; 0 by the template 'total and deterministic' (their statements: YtikaoikladbdpaaGreatTotals.lean).
  GIVEN WITH THE SEED: the statements are not yours to turn. If you find one false, say at which input.
  Laid BY PROGRAM, IN A SANDBOX (cutbox-rows.mjs): the forced cells as the released guide's own fill.sh prints them over the translation 19be52256787ec32… (all of the seat's roots in one cut). By AI agents, Wed Nov 11 2026. No macro, syntax, notation, axiom, sorry.
-/
import Derived.Test.YtikaoikladbdpaaGreatChecked
import GoSem.Claim
import GoSem.ClaimJoined
import GoSem.ClaimMapViews
import Derived.JoinedTies
import Derived.KernelRfl
namespace Go.Proofs.YtikaoikladbdpaaGreat
/- THE CELL 'sum', in the pinned program and in every row, IS THE sha256 OF THE DUMP (.gsa) THAT YtikaoikladbdpaaGreatProg.lean LOADS. Nothing in Lean hashes anything: it is a label: what it is worth is what the hold of that sum in a sandbox is worth. -/
noncomputable def Tryz.pinned : Pinned := { name := "ytikaoikladbdpaagreat", sum := "19be52256787ec3289fdb3f6dbba7f093311f0075daf07d498bd0d84fb5b76d9", checked := Tryz.checked }
namespace Rows
def none {H : Type} : Left H := { results := [], args := [] }

/-- 'reaperlaw16.CombSteps': WHATEVER THE INPUT: true; the input reads as it did. -/
def combStepsSpec : ChangeSpec := { name := "combSteps", fn := fun _ => fun
  | [d1, d2, d3, d4, d5, d6, d7] => { results := [.lit (.bool true)], args := [d1, d2, d3, d4, d5, d6, d7] }
  | _ => none }
def combStepsRow : OpenClaim := { program := "ytikaoikladbdpaagreat", sum := "19be52256787ec3289fdb3f6dbba7f093311f0075daf07d498bd0d84fb5b76d9", func := "reaper/reaperlaw16.CombSteps", spec := "combSteps", unfollowed := true, recurses := true, apart := false }
def CombStepsSaid : Prop := combStepsRow.holds Tryz.pinned (OpenSpec.ofChange combStepsSpec)

/-- ITS FALSE NEIGHBOUR: 'it returns false'. Refute it at one input. -/
def combStepsWrong : ChangeSpec := { name := "combSteps", fn := fun _ => fun
  | [d1, d2, d3, d4, d5, d6, d7] => { results := [.lit (.bool false)], args := [d1, d2, d3, d4, d5, d6, d7] }
  | _ => none }
def CombStepsWrongFalsely : Prop := combStepsRow.holds Tryz.pinned (OpenSpec.ofChange combStepsWrong)

/-- 'reaperlaw16.CombRuns': WHATEVER THE INPUT: true; the input reads as it did. -/
def combRunsSpec : ChangeSpec := { name := "combRuns", fn := fun _ => fun
  | [d1, d2, d3, d4, d5] => { results := [.lit (.bool true)], args := [d1, d2, d3, d4, d5] }
  | _ => none }
def combRunsRow : OpenClaim := { program := "ytikaoikladbdpaagreat", sum := "19be52256787ec3289fdb3f6dbba7f093311f0075daf07d498bd0d84fb5b76d9", func := "reaper/reaperlaw16.CombRuns", spec := "combRuns", unfollowed := true, recurses := true, apart := false }
def CombRunsSaid : Prop := combRunsRow.holds Tryz.pinned (OpenSpec.ofChange combRunsSpec)

/-- ITS FALSE NEIGHBOUR: 'it returns false'. Refute it at one input. -/
def combRunsWrong : ChangeSpec := { name := "combRuns", fn := fun _ => fun
  | [d1, d2, d3, d4, d5] => { results := [.lit (.bool false)], args := [d1, d2, d3, d4, d5] }
  | _ => none }
def CombRunsWrongFalsely : Prop := combRunsRow.holds Tryz.pinned (OpenSpec.ofChange combRunsWrong)

/-- 'reaperlaw16.CombServes': WHATEVER THE INPUT: true; the input reads as it did. -/
def combServesSpec : ChangeSpec := { name := "combServes", fn := fun _ => fun
  | [d1, d2, d3, d4, d5] => { results := [.lit (.bool true)], args := [d1, d2, d3, d4, d5] }
  | _ => none }
def combServesRow : OpenClaim := { program := "ytikaoikladbdpaagreat", sum := "19be52256787ec3289fdb3f6dbba7f093311f0075daf07d498bd0d84fb5b76d9", func := "reaper/reaperlaw16.CombServes", spec := "combServes", unfollowed := true, recurses := true, apart := false }
def CombServesSaid : Prop := combServesRow.holds Tryz.pinned (OpenSpec.ofChange combServesSpec)

/-- ITS FALSE NEIGHBOUR: 'it returns false'. Refute it at one input. -/
def combServesWrong : ChangeSpec := { name := "combServes", fn := fun _ => fun
  | [d1, d2, d3, d4, d5] => { results := [.lit (.bool false)], args := [d1, d2, d3, d4, d5] }
  | _ => none }
def CombServesWrongFalsely : Prop := combServesRow.holds Tryz.pinned (OpenSpec.ofChange combServesWrong)

/-- 'reaperlaw16.CombPasses': WHATEVER THE INPUT: true; the input reads as it did. -/
def combPassesSpec : ChangeSpec := { name := "combPasses", fn := fun _ => fun
  | [d1, d2, d3] => { results := [.lit (.bool true)], args := [d1, d2, d3] }
  | _ => none }
def combPassesRow : OpenClaim := { program := "ytikaoikladbdpaagreat", sum := "19be52256787ec3289fdb3f6dbba7f093311f0075daf07d498bd0d84fb5b76d9", func := "reaper/reaperlaw16.CombPasses", spec := "combPasses", unfollowed := true, recurses := true, apart := false }
def CombPassesSaid : Prop := combPassesRow.holds Tryz.pinned (OpenSpec.ofChange combPassesSpec)

/-- ITS FALSE NEIGHBOUR: 'it returns false'. Refute it at one input. -/
def combPassesWrong : ChangeSpec := { name := "combPasses", fn := fun _ => fun
  | [d1, d2, d3] => { results := [.lit (.bool false)], args := [d1, d2, d3] }
  | _ => none }
def CombPassesWrongFalsely : Prop := combPassesRow.holds Tryz.pinned (OpenSpec.ofChange combPassesWrong)

/-- 'reaperlaw16.CombOrder': WHATEVER THE INPUT: true; the input reads as it did. -/
def combOrderSpec : ChangeSpec := { name := "combOrder", fn := fun _ => fun
  | [d1, d2] => { results := [.lit (.bool true)], args := [d1, d2] }
  | _ => none }
def combOrderRow : OpenClaim := { program := "ytikaoikladbdpaagreat", sum := "19be52256787ec3289fdb3f6dbba7f093311f0075daf07d498bd0d84fb5b76d9", func := "reaper/reaperlaw16.CombOrder", spec := "combOrder", unfollowed := true, recurses := true, apart := false }
def CombOrderSaid : Prop := combOrderRow.holds Tryz.pinned (OpenSpec.ofChange combOrderSpec)

/-- ITS FALSE NEIGHBOUR: 'it returns false'. Refute it at one input. -/
def combOrderWrong : ChangeSpec := { name := "combOrder", fn := fun _ => fun
  | [d1, d2] => { results := [.lit (.bool false)], args := [d1, d2] }
  | _ => none }
def CombOrderWrongFalsely : Prop := combOrderRow.holds Tryz.pinned (OpenSpec.ofChange combOrderWrong)

/-- 'reaperlaw16.CombAgain': WHATEVER THE INPUT: true; the input reads as it did. -/
def combAgainSpec : ChangeSpec := { name := "combAgain", fn := fun _ => fun
  | [d1, d2, d3] => { results := [.lit (.bool true)], args := [d1, d2, d3] }
  | _ => none }
def combAgainRow : OpenClaim := { program := "ytikaoikladbdpaagreat", sum := "19be52256787ec3289fdb3f6dbba7f093311f0075daf07d498bd0d84fb5b76d9", func := "reaper/reaperlaw16.CombAgain", spec := "combAgain", unfollowed := true, recurses := true, apart := false }
def CombAgainSaid : Prop := combAgainRow.holds Tryz.pinned (OpenSpec.ofChange combAgainSpec)

/-- ITS FALSE NEIGHBOUR: 'it returns false'. Refute it at one input. -/
def combAgainWrong : ChangeSpec := { name := "combAgain", fn := fun _ => fun
  | [d1, d2, d3] => { results := [.lit (.bool false)], args := [d1, d2, d3] }
  | _ => none }
def CombAgainWrongFalsely : Prop := combAgainRow.holds Tryz.pinned (OpenSpec.ofChange combAgainWrong)

/- THE SECOND FORM. 'bulk': how many values and letters a reading holds, each counted each time it is reached (what is shared counts as often as it is met; a slice's spare places count too). A statement '..UptoSaid' is the law's where the arguments, and the package variables that the reading takes, are together of bulk at most 1048576: NARROWER than '..Said'. Prove '..Said' where nothing that the law and all that it calls make is longer than what came in: it says more and counts as full. Else prove '..UptoSaid'. A law counts once. -/
mutual
def uptoBulk {H : Type} : DataW H → Nat
  | .lit (.string bytes) => bytes.length + 1
  | .lit _ => 1
  | .nil => 1
  | .ptr d => uptoBulk d + 1
  | .slice elems spare => uptoBulkAll elems + uptoBulkAll spare + 1
  | .agg parts => uptoBulkAll parts + 1
  | .iface _ d => uptoBulk d + 1
  | .map entries => uptoBulkEntries entries + 1
  | .held _ => 1
def uptoBulkAll {H : Type} : List (DataW H) → Nat
  | [] => 0
  | d :: r => uptoBulk d + uptoBulkAll r
def uptoBulkEntries {H : Type} : List (Lit × DataW H) → Nat
  | [] => 0
  | x :: r => uptoBulkEntry x + uptoBulkEntries r
def uptoBulkEntry {H : Type} : Lit × DataW H → Nat
  | (.string bytes, d) => bytes.length + uptoBulk d + 1
  | (_, d) => uptoBulk d + 1
 end
def uptoSmall : (H : Type) → List (DataW H) → Bool := fun _ ds => decide (uptoBulkAll ds ≤ 1048576)
def OpenSpec.upto (s : _root_.Go.ChangeSpec) : _root_.Go.OpenSpec := { _root_.Go.OpenSpec.ofChange s with cond := some uptoSmall }

/-- 'reaperlaw16.CombSteps', WHERE WHAT IT READS IS OF BULK AT MOST 1048576: true; the input reads as it did. -/
def combStepsUptoRow : OpenClaim := { program := "ytikaoikladbdpaagreat", sum := "19be52256787ec3289fdb3f6dbba7f093311f0075daf07d498bd0d84fb5b76d9", func := "reaper/reaperlaw16.CombSteps", spec := "combSteps", unfollowed := true, recurses := true, apart := false, narrowed := true }
def CombStepsUptoSaid : Prop := combStepsUptoRow.holds Tryz.pinned (OpenSpec.upto combStepsSpec)

/-- 'reaperlaw16.CombRuns', WHERE WHAT IT READS IS OF BULK AT MOST 1048576: true; the input reads as it did. -/
def combRunsUptoRow : OpenClaim := { program := "ytikaoikladbdpaagreat", sum := "19be52256787ec3289fdb3f6dbba7f093311f0075daf07d498bd0d84fb5b76d9", func := "reaper/reaperlaw16.CombRuns", spec := "combRuns", unfollowed := true, recurses := true, apart := false, narrowed := true }
def CombRunsUptoSaid : Prop := combRunsUptoRow.holds Tryz.pinned (OpenSpec.upto combRunsSpec)

/-- 'reaperlaw16.CombServes', WHERE WHAT IT READS IS OF BULK AT MOST 1048576: true; the input reads as it did. -/
def combServesUptoRow : OpenClaim := { program := "ytikaoikladbdpaagreat", sum := "19be52256787ec3289fdb3f6dbba7f093311f0075daf07d498bd0d84fb5b76d9", func := "reaper/reaperlaw16.CombServes", spec := "combServes", unfollowed := true, recurses := true, apart := false, narrowed := true }
def CombServesUptoSaid : Prop := combServesUptoRow.holds Tryz.pinned (OpenSpec.upto combServesSpec)

/-- 'reaperlaw16.CombPasses', WHERE WHAT IT READS IS OF BULK AT MOST 1048576: true; the input reads as it did. -/
def combPassesUptoRow : OpenClaim := { program := "ytikaoikladbdpaagreat", sum := "19be52256787ec3289fdb3f6dbba7f093311f0075daf07d498bd0d84fb5b76d9", func := "reaper/reaperlaw16.CombPasses", spec := "combPasses", unfollowed := true, recurses := true, apart := false, narrowed := true }
def CombPassesUptoSaid : Prop := combPassesUptoRow.holds Tryz.pinned (OpenSpec.upto combPassesSpec)

/-- 'reaperlaw16.CombOrder', WHERE WHAT IT READS IS OF BULK AT MOST 1048576: true; the input reads as it did. -/
def combOrderUptoRow : OpenClaim := { program := "ytikaoikladbdpaagreat", sum := "19be52256787ec3289fdb3f6dbba7f093311f0075daf07d498bd0d84fb5b76d9", func := "reaper/reaperlaw16.CombOrder", spec := "combOrder", unfollowed := true, recurses := true, apart := false, narrowed := true }
def CombOrderUptoSaid : Prop := combOrderUptoRow.holds Tryz.pinned (OpenSpec.upto combOrderSpec)

/-- 'reaperlaw16.CombAgain', WHERE WHAT IT READS IS OF BULK AT MOST 1048576: true; the input reads as it did. -/
def combAgainUptoRow : OpenClaim := { program := "ytikaoikladbdpaagreat", sum := "19be52256787ec3289fdb3f6dbba7f093311f0075daf07d498bd0d84fb5b76d9", func := "reaper/reaperlaw16.CombAgain", spec := "combAgain", unfollowed := true, recurses := true, apart := false, narrowed := true }
def CombAgainUptoSaid : Prop := combAgainUptoRow.holds Tryz.pinned (OpenSpec.upto combAgainSpec)

end Rows
end Go.Proofs.YtikaoikladbdpaaGreat
