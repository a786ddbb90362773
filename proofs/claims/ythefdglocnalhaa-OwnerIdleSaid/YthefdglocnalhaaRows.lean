/-
  No cell of these rows narrows 'for every input' (looked for: loops, veiled, ifaces, maps, wideKeys, modest, calm, conditions, laid).
  DERIVED. THE GIVEN ROWS OF THIS SEAT. 7 by the template 'for every input the law returns true; each argument reads behind the call as it read before'; 0 by the template 'total and deterministic' (their statements: YthefdglocnalhaaTotals.lean).
  GIVEN WITH THE SEED: the statements are not yours to turn. If you find one false, say at which input.
  Laid BY PROGRAM, IN A SANDBOX (cutbox-rows.mjs): the forced cells as the released guide's own fill.sh prints them over the translation 9fc528f15a2ae384… (all of the seat's roots in one cut). By AI agents, Wed Nov 11 2026. No macro, syntax, notation, axiom, sorry.
-/
import Derived.Test.YthefdglocnalhaaChecked
import GoSem.Claim
import GoSem.ClaimJoined
import GoSem.ClaimMapViews
import Derived.JoinedTies
import Derived.KernelRfl
namespace Go.Proofs.Ythefdglocnalhaa
/- THE CELL 'sum', in the pinned program and in every row, IS THE sha256 OF THE DUMP (.gsa) THAT YthefdglocnalhaaProg.lean LOADS. Nothing in Lean hashes anything: it is a label: what it is worth is what the hold of that sum in a sandbox is worth. -/
noncomputable def Try.pinned : Pinned := { name := "ythefdglocnalhaa", sum := "9fc528f15a2ae384c030061c209d08d663677bcb8228561097ea7c15b65a0945", checked := Try.checked }
namespace Rows
def none {H : Type} : Left H := { results := [], args := [] }

/-- 'reaperlaw15.OwnerSteps': WHATEVER THE INPUT: true; the input reads as it did. -/
def ownerStepsSpec : ChangeSpec := { name := "ownerSteps", fn := fun _ => fun
  | [d1, d2, d3, d4, d5] => { results := [.lit (.bool true)], args := [d1, d2, d3, d4, d5] }
  | _ => none }
def ownerStepsRow : OpenClaim := { program := "ythefdglocnalhaa", sum := "9fc528f15a2ae384c030061c209d08d663677bcb8228561097ea7c15b65a0945", func := "reaper/reaperlaw15.OwnerSteps", spec := "ownerSteps", unfollowed := true, recurses := true, apart := false }
def OwnerStepsSaid : Prop := ownerStepsRow.holds Try.pinned (OpenSpec.ofChange ownerStepsSpec)

/-- ITS FALSE NEIGHBOUR: 'it returns false'. Refute it at one input. -/
def ownerStepsWrong : ChangeSpec := { name := "ownerSteps", fn := fun _ => fun
  | [d1, d2, d3, d4, d5] => { results := [.lit (.bool false)], args := [d1, d2, d3, d4, d5] }
  | _ => none }
def OwnerStepsWrongFalsely : Prop := ownerStepsRow.holds Try.pinned (OpenSpec.ofChange ownerStepsWrong)

/-- 'reaperlaw15.OwnerRuns': WHATEVER THE INPUT: true; the input reads as it did. -/
def ownerRunsSpec : ChangeSpec := { name := "ownerRuns", fn := fun _ => fun
  | [d1, d2, d3] => { results := [.lit (.bool true)], args := [d1, d2, d3] }
  | _ => none }
def ownerRunsRow : OpenClaim := { program := "ythefdglocnalhaa", sum := "9fc528f15a2ae384c030061c209d08d663677bcb8228561097ea7c15b65a0945", func := "reaper/reaperlaw15.OwnerRuns", spec := "ownerRuns", unfollowed := true, recurses := true, apart := false }
def OwnerRunsSaid : Prop := ownerRunsRow.holds Try.pinned (OpenSpec.ofChange ownerRunsSpec)

/-- ITS FALSE NEIGHBOUR: 'it returns false'. Refute it at one input. -/
def ownerRunsWrong : ChangeSpec := { name := "ownerRuns", fn := fun _ => fun
  | [d1, d2, d3] => { results := [.lit (.bool false)], args := [d1, d2, d3] }
  | _ => none }
def OwnerRunsWrongFalsely : Prop := ownerRunsRow.holds Try.pinned (OpenSpec.ofChange ownerRunsWrong)

/-- 'reaperlaw15.OwnerClaims': WHATEVER THE INPUT: true; the input reads as it did. -/
def ownerClaimsSpec : ChangeSpec := { name := "ownerClaims", fn := fun _ => fun
  | [d1, d2, d3, d4] => { results := [.lit (.bool true)], args := [d1, d2, d3, d4] }
  | _ => none }
def ownerClaimsRow : OpenClaim := { program := "ythefdglocnalhaa", sum := "9fc528f15a2ae384c030061c209d08d663677bcb8228561097ea7c15b65a0945", func := "reaper/reaperlaw15.OwnerClaims", spec := "ownerClaims", unfollowed := true, recurses := true, apart := false }
def OwnerClaimsSaid : Prop := ownerClaimsRow.holds Try.pinned (OpenSpec.ofChange ownerClaimsSpec)

/-- ITS FALSE NEIGHBOUR: 'it returns false'. Refute it at one input. -/
def ownerClaimsWrong : ChangeSpec := { name := "ownerClaims", fn := fun _ => fun
  | [d1, d2, d3, d4] => { results := [.lit (.bool false)], args := [d1, d2, d3, d4] }
  | _ => none }
def OwnerClaimsWrongFalsely : Prop := ownerClaimsRow.holds Try.pinned (OpenSpec.ofChange ownerClaimsWrong)

/-- 'reaperlaw15.OwnerTold': WHATEVER THE INPUT: true; the input reads as it did. -/
def ownerToldSpec : ChangeSpec := { name := "ownerTold", fn := fun _ => fun
  | [d1, d2, d3] => { results := [.lit (.bool true)], args := [d1, d2, d3] }
  | _ => none }
def ownerToldRow : OpenClaim := { program := "ythefdglocnalhaa", sum := "9fc528f15a2ae384c030061c209d08d663677bcb8228561097ea7c15b65a0945", func := "reaper/reaperlaw15.OwnerTold", spec := "ownerTold", unfollowed := true, recurses := true, apart := false }
def OwnerToldSaid : Prop := ownerToldRow.holds Try.pinned (OpenSpec.ofChange ownerToldSpec)

/-- ITS FALSE NEIGHBOUR: 'it returns false'. Refute it at one input. -/
def ownerToldWrong : ChangeSpec := { name := "ownerTold", fn := fun _ => fun
  | [d1, d2, d3] => { results := [.lit (.bool false)], args := [d1, d2, d3] }
  | _ => none }
def OwnerToldWrongFalsely : Prop := ownerToldRow.holds Try.pinned (OpenSpec.ofChange ownerToldWrong)

/-- 'reaperlaw15.OwnerIdle': WHATEVER THE INPUT: true; the input reads as it did. -/
def ownerIdleSpec : ChangeSpec := { name := "ownerIdle", fn := fun _ => fun
  | [d1, d2, d3, d4] => { results := [.lit (.bool true)], args := [d1, d2, d3, d4] }
  | _ => none }
def ownerIdleRow : OpenClaim := { program := "ythefdglocnalhaa", sum := "9fc528f15a2ae384c030061c209d08d663677bcb8228561097ea7c15b65a0945", func := "reaper/reaperlaw15.OwnerIdle", spec := "ownerIdle", unfollowed := true, recurses := true, apart := false }
def OwnerIdleSaid : Prop := ownerIdleRow.holds Try.pinned (OpenSpec.ofChange ownerIdleSpec)

/-- ITS FALSE NEIGHBOUR: 'it returns false'. Refute it at one input. -/
def ownerIdleWrong : ChangeSpec := { name := "ownerIdle", fn := fun _ => fun
  | [d1, d2, d3, d4] => { results := [.lit (.bool false)], args := [d1, d2, d3, d4] }
  | _ => none }
def OwnerIdleWrongFalsely : Prop := ownerIdleRow.holds Try.pinned (OpenSpec.ofChange ownerIdleWrong)

/-- 'reaperlaw15.OwnerLock': WHATEVER THE INPUT: true; the input reads as it did. -/
def ownerLockSpec : ChangeSpec := { name := "ownerLock", fn := fun _ => fun
  | [d1, d2, d3, d4] => { results := [.lit (.bool true)], args := [d1, d2, d3, d4] }
  | _ => none }
def ownerLockRow : OpenClaim := { program := "ythefdglocnalhaa", sum := "9fc528f15a2ae384c030061c209d08d663677bcb8228561097ea7c15b65a0945", func := "reaper/reaperlaw15.OwnerLock", spec := "ownerLock", unfollowed := true, recurses := true, apart := false }
def OwnerLockSaid : Prop := ownerLockRow.holds Try.pinned (OpenSpec.ofChange ownerLockSpec)

/-- ITS FALSE NEIGHBOUR: 'it returns false'. Refute it at one input. -/
def ownerLockWrong : ChangeSpec := { name := "ownerLock", fn := fun _ => fun
  | [d1, d2, d3, d4] => { results := [.lit (.bool false)], args := [d1, d2, d3, d4] }
  | _ => none }
def OwnerLockWrongFalsely : Prop := ownerLockRow.holds Try.pinned (OpenSpec.ofChange ownerLockWrong)

/-- 'reaperlaw15.OwnerLate': WHATEVER THE INPUT: true; the input reads as it did. -/
def ownerLateSpec : ChangeSpec := { name := "ownerLate", fn := fun _ => fun
  | [d1, d2, d3, d4] => { results := [.lit (.bool true)], args := [d1, d2, d3, d4] }
  | _ => none }
def ownerLateRow : OpenClaim := { program := "ythefdglocnalhaa", sum := "9fc528f15a2ae384c030061c209d08d663677bcb8228561097ea7c15b65a0945", func := "reaper/reaperlaw15.OwnerLate", spec := "ownerLate", unfollowed := true, recurses := true, apart := false }
def OwnerLateSaid : Prop := ownerLateRow.holds Try.pinned (OpenSpec.ofChange ownerLateSpec)

/-- ITS FALSE NEIGHBOUR: 'it returns false'. Refute it at one input. -/
def ownerLateWrong : ChangeSpec := { name := "ownerLate", fn := fun _ => fun
  | [d1, d2, d3, d4] => { results := [.lit (.bool false)], args := [d1, d2, d3, d4] }
  | _ => none }
def OwnerLateWrongFalsely : Prop := ownerLateRow.holds Try.pinned (OpenSpec.ofChange ownerLateWrong)

/- THE SECOND FORM. 'bulk': how many values and letters a reading holds, each counted each time it is reached (what is shared counts as often as it is met; a slice's spare places count too). A statement '..UptoSaid' is the law's where the arguments, and the package variables that the reading takes, are together of bulk at most 1048576: NARROWER than '..Said'. Prove '..Said' where nothing that the law and all that it calls make is longer than what came in: it says more and counts as full. Else prove '..UptoSaid'. A law counts once. -/
mutual
def uptoBulk {H : Type} : DataW H → Nat
  | .lit (.string bytes) => bytes.length + 1
  | .lit _ => 1
  | .nil => 1
  | .ptr d => uptoBulk d + 1
  | .slice elems spare => uptoBulkAll elems + uptoBulkAll spare + 1
  | .agg parts => uptoBulkAll parts + 1
  | .iface _ d => uptoBulk d + 1
  | .map entries => uptoBulkEntries entries + 1
  | .held _ => 1
def uptoBulkAll {H : Type} : List (DataW H) → Nat
  | [] => 0
  | d :: r => uptoBulk d + uptoBulkAll r
def uptoBulkEntries {H : Type} : List (Lit × DataW H) → Nat
  | [] => 0
  | x :: r => uptoBulkEntry x + uptoBulkEntries r
def uptoBulkEntry {H : Type} : Lit × DataW H → Nat
  | (.string bytes, d) => bytes.length + uptoBulk d + 1
  | (_, d) => uptoBulk d + 1
 end
def uptoSmall : (H : Type) → List (DataW H) → Bool := fun _ ds => decide (uptoBulkAll ds ≤ 1048576)
def OpenSpec.upto (s : _root_.Go.ChangeSpec) : _root_.Go.OpenSpec := { _root_.Go.OpenSpec.ofChange s with cond := some uptoSmall }

/-- 'reaperlaw15.OwnerSteps', WHERE WHAT IT READS IS OF BULK AT MOST 1048576: true; the input reads as it did. -/
def ownerStepsUptoRow : OpenClaim := { program := "ythefdglocnalhaa", sum := "9fc528f15a2ae384c030061c209d08d663677bcb8228561097ea7c15b65a0945", func := "reaper/reaperlaw15.OwnerSteps", spec := "ownerSteps", unfollowed := true, recurses := true, apart := false, narrowed := true }
def OwnerStepsUptoSaid : Prop := ownerStepsUptoRow.holds Try.pinned (OpenSpec.upto ownerStepsSpec)

/-- 'reaperlaw15.OwnerRuns', WHERE WHAT IT READS IS OF BULK AT MOST 1048576: true; the input reads as it did. -/
def ownerRunsUptoRow : OpenClaim := { program := "ythefdglocnalhaa", sum := "9fc528f15a2ae384c030061c209d08d663677bcb8228561097ea7c15b65a0945", func := "reaper/reaperlaw15.OwnerRuns", spec := "ownerRuns", unfollowed := true, recurses := true, apart := false, narrowed := true }
def OwnerRunsUptoSaid : Prop := ownerRunsUptoRow.holds Try.pinned (OpenSpec.upto ownerRunsSpec)

/-- 'reaperlaw15.OwnerClaims', WHERE WHAT IT READS IS OF BULK AT MOST 1048576: true; the input reads as it did. -/
def ownerClaimsUptoRow : OpenClaim := { program := "ythefdglocnalhaa", sum := "9fc528f15a2ae384c030061c209d08d663677bcb8228561097ea7c15b65a0945", func := "reaper/reaperlaw15.OwnerClaims", spec := "ownerClaims", unfollowed := true, recurses := true, apart := false, narrowed := true }
def OwnerClaimsUptoSaid : Prop := ownerClaimsUptoRow.holds Try.pinned (OpenSpec.upto ownerClaimsSpec)

/-- 'reaperlaw15.OwnerTold', WHERE WHAT IT READS IS OF BULK AT MOST 1048576: true; the input reads as it did. -/
def ownerToldUptoRow : OpenClaim := { program := "ythefdglocnalhaa", sum := "9fc528f15a2ae384c030061c209d08d663677bcb8228561097ea7c15b65a0945", func := "reaper/reaperlaw15.OwnerTold", spec := "ownerTold", unfollowed := true, recurses := true, apart := false, narrowed := true }
def OwnerToldUptoSaid : Prop := ownerToldUptoRow.holds Try.pinned (OpenSpec.upto ownerToldSpec)

/-- 'reaperlaw15.OwnerIdle', WHERE WHAT IT READS IS OF BULK AT MOST 1048576: true; the input reads as it did. -/
def ownerIdleUptoRow : OpenClaim := { program := "ythefdglocnalhaa", sum := "9fc528f15a2ae384c030061c209d08d663677bcb8228561097ea7c15b65a0945", func := "reaper/reaperlaw15.OwnerIdle", spec := "ownerIdle", unfollowed := true, recurses := true, apart := false, narrowed := true }
def OwnerIdleUptoSaid : Prop := ownerIdleUptoRow.holds Try.pinned (OpenSpec.upto ownerIdleSpec)

/-- 'reaperlaw15.OwnerLock', WHERE WHAT IT READS IS OF BULK AT MOST 1048576: true; the input reads as it did. -/
def ownerLockUptoRow : OpenClaim := { program := "ythefdglocnalhaa", sum := "9fc528f15a2ae384c030061c209d08d663677bcb8228561097ea7c15b65a0945", func := "reaper/reaperlaw15.OwnerLock", spec := "ownerLock", unfollowed := true, recurses := true, apart := false, narrowed := true }
def OwnerLockUptoSaid : Prop := ownerLockUptoRow.holds Try.pinned (OpenSpec.upto ownerLockSpec)

/-- 'reaperlaw15.OwnerLate', WHERE WHAT IT READS IS OF BULK AT MOST 1048576: true; the input reads as it did. -/
def ownerLateUptoRow : OpenClaim := { program := "ythefdglocnalhaa", sum := "9fc528f15a2ae384c030061c209d08d663677bcb8228561097ea7c15b65a0945", func := "reaper/reaperlaw15.OwnerLate", spec := "ownerLate", unfollowed := true, recurses := true, apart := false, narrowed := true }
def OwnerLateUptoSaid : Prop := ownerLateUptoRow.holds Try.pinned (OpenSpec.upto ownerLateSpec)

end Rows
end Go.Proofs.Ythefdglocnalhaa
