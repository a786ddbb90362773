/-
  No cell of these rows narrows 'for every input' (looked for: loops, veiled, ifaces, maps, wideKeys, modest, calm, conditions, laid).
  DERIVED. THE GIVEN ROWS OF THIS SEAT. 6 by the template 'for every input the law returns true; each argument reads behind the call as it read before'; 0 by the template 'total and deterministic' (their statements: YtniefplgijpckaaGreatTotals.lean).
  GIVEN WITH THE SEED: the statements are not yours to turn. If you find one false, say at which input.
  Laid BY PROGRAM, IN A SANDBOX (cutbox-rows.mjs): the forced cells as the released guide's own fill.sh prints them over the translation 4451df2b11ec74a2… (all of the seat's roots in one cut). By AI agents, Wed Nov 11 2026. No macro, syntax, notation, axiom, sorry.
-/
import Derived.Test.YtniefplgijpckaaGreatChecked
import GoSem.Claim
import GoSem.ClaimJoined
import GoSem.ClaimMapViews
import Derived.JoinedTies
import Derived.KernelRfl
namespace Go.Proofs.YtniefplgijpckaaGreat
/- THE CELL 'sum', in the pinned program and in every row, IS THE sha256 OF THE DUMP (.gsa) THAT YtniefplgijpckaaGreatProg.lean LOADS. Nothing in Lean hashes anything: it is a label: what it is worth is what the hold of that sum in a sandbox is worth. -/
noncomputable def Tryz.pinned : Pinned := { name := "ytniefplgijpckaagreat", sum := "4451df2b11ec74a2a44b17f0ec274d276e08aaccee984594af53bb25cfce1d40", checked := Tryz.checked }
namespace Rows
def none {H : Type} : Left H := { results := [], args := [] }

/-- 'reaperlaw12.ObjectDoes': WHATEVER THE INPUT: true; the input reads as it did. -/
def objectDoesSpec : ChangeSpec := { name := "objectDoes", fn := fun _ => fun
  | [d1, d2, d3, d4, d5] => { results := [.lit (.bool true)], args := [d1, d2, d3, d4, d5] }
  | _ => none }
def objectDoesRow : OpenClaim := { program := "ytniefplgijpckaagreat", sum := "4451df2b11ec74a2a44b17f0ec274d276e08aaccee984594af53bb25cfce1d40", func := "reaper/reaperlaw12.ObjectDoes", spec := "objectDoes", unfollowed := true, recurses := true, apart := false }
def ObjectDoesSaid : Prop := objectDoesRow.holds Tryz.pinned (OpenSpec.ofChange objectDoesSpec)

/-- ITS FALSE NEIGHBOUR: 'it returns false'. Refute it at one input. -/
def objectDoesWrong : ChangeSpec := { name := "objectDoes", fn := fun _ => fun
  | [d1, d2, d3, d4, d5] => { results := [.lit (.bool false)], args := [d1, d2, d3, d4, d5] }
  | _ => none }
def ObjectDoesWrongFalsely : Prop := objectDoesRow.holds Tryz.pinned (OpenSpec.ofChange objectDoesWrong)

/-- 'reaperlaw12.ObjectPlain': WHATEVER THE INPUT: true; the input reads as it did. -/
def objectPlainSpec : ChangeSpec := { name := "objectPlain", fn := fun _ => fun
  | [d1, d2, d3, d4, d5] => { results := [.lit (.bool true)], args := [d1, d2, d3, d4, d5] }
  | _ => none }
def objectPlainRow : OpenClaim := { program := "ytniefplgijpckaagreat", sum := "4451df2b11ec74a2a44b17f0ec274d276e08aaccee984594af53bb25cfce1d40", func := "reaper/reaperlaw12.ObjectPlain", spec := "objectPlain", unfollowed := true, recurses := true, apart := false }
def ObjectPlainSaid : Prop := objectPlainRow.holds Tryz.pinned (OpenSpec.ofChange objectPlainSpec)

/-- ITS FALSE NEIGHBOUR: 'it returns false'. Refute it at one input. -/
def objectPlainWrong : ChangeSpec := { name := "objectPlain", fn := fun _ => fun
  | [d1, d2, d3, d4, d5] => { results := [.lit (.bool false)], args := [d1, d2, d3, d4, d5] }
  | _ => none }
def ObjectPlainWrongFalsely : Prop := objectPlainRow.holds Tryz.pinned (OpenSpec.ofChange objectPlainWrong)

/-- 'reaperlaw12.ObjectSpec': WHATEVER THE INPUT: true; the input reads as it did. -/
def objectSpecSpec : ChangeSpec := { name := "objectSpec", fn := fun _ => fun
  | [d1, d2, d3, d4] => { results := [.lit (.bool true)], args := [d1, d2, d3, d4] }
  | _ => none }
def objectSpecRow : OpenClaim := { program := "ytniefplgijpckaagreat", sum := "4451df2b11ec74a2a44b17f0ec274d276e08aaccee984594af53bb25cfce1d40", func := "reaper/reaperlaw12.ObjectSpec", spec := "objectSpec", unfollowed := true, recurses := true, apart := false }
def ObjectSpecSaid : Prop := objectSpecRow.holds Tryz.pinned (OpenSpec.ofChange objectSpecSpec)

/-- ITS FALSE NEIGHBOUR: 'it returns false'. Refute it at one input. -/
def objectSpecWrong : ChangeSpec := { name := "objectSpec", fn := fun _ => fun
  | [d1, d2, d3, d4] => { results := [.lit (.bool false)], args := [d1, d2, d3, d4] }
  | _ => none }
def ObjectSpecWrongFalsely : Prop := objectSpecRow.holds Tryz.pinned (OpenSpec.ofChange objectSpecWrong)

/-- 'reaperlaw12.ObjectCopy': WHATEVER THE INPUT: true; the input reads as it did. -/
def objectCopySpec : ChangeSpec := { name := "objectCopy", fn := fun _ => fun
  | [d1, d2, d3, d4] => { results := [.lit (.bool true)], args := [d1, d2, d3, d4] }
  | _ => none }
def objectCopyRow : OpenClaim := { program := "ytniefplgijpckaagreat", sum := "4451df2b11ec74a2a44b17f0ec274d276e08aaccee984594af53bb25cfce1d40", func := "reaper/reaperlaw12.ObjectCopy", spec := "objectCopy", unfollowed := true, recurses := true, apart := false }
def ObjectCopySaid : Prop := objectCopyRow.holds Tryz.pinned (OpenSpec.ofChange objectCopySpec)

/-- ITS FALSE NEIGHBOUR: 'it returns false'. Refute it at one input. -/
def objectCopyWrong : ChangeSpec := { name := "objectCopy", fn := fun _ => fun
  | [d1, d2, d3, d4] => { results := [.lit (.bool false)], args := [d1, d2, d3, d4] }
  | _ => none }
def ObjectCopyWrongFalsely : Prop := objectCopyRow.holds Tryz.pinned (OpenSpec.ofChange objectCopyWrong)

/-- 'reaperlaw12.ObjectOne': WHATEVER THE INPUT: true; the input reads as it did. -/
def objectOneSpec : ChangeSpec := { name := "objectOne", fn := fun _ => fun
  | [d1, d2, d3, d4] => { results := [.lit (.bool true)], args := [d1, d2, d3, d4] }
  | _ => none }
def objectOneRow : OpenClaim := { program := "ytniefplgijpckaagreat", sum := "4451df2b11ec74a2a44b17f0ec274d276e08aaccee984594af53bb25cfce1d40", func := "reaper/reaperlaw12.ObjectOne", spec := "objectOne", unfollowed := true, recurses := true, apart := false }
def ObjectOneSaid : Prop := objectOneRow.holds Tryz.pinned (OpenSpec.ofChange objectOneSpec)

/-- ITS FALSE NEIGHBOUR: 'it returns false'. Refute it at one input. -/
def objectOneWrong : ChangeSpec := { name := "objectOne", fn := fun _ => fun
  | [d1, d2, d3, d4] => { results := [.lit (.bool false)], args := [d1, d2, d3, d4] }
  | _ => none }
def ObjectOneWrongFalsely : Prop := objectOneRow.holds Tryz.pinned (OpenSpec.ofChange objectOneWrong)

/-- 'reaperlaw12.ObjectFull': WHATEVER THE INPUT: true; the input reads as it did. -/
def objectFullSpec : ChangeSpec := { name := "objectFull", fn := fun _ => fun
  | [d1, d2, d3, d4] => { results := [.lit (.bool true)], args := [d1, d2, d3, d4] }
  | _ => none }
def objectFullRow : OpenClaim := { program := "ytniefplgijpckaagreat", sum := "4451df2b11ec74a2a44b17f0ec274d276e08aaccee984594af53bb25cfce1d40", func := "reaper/reaperlaw12.ObjectFull", spec := "objectFull", unfollowed := true, recurses := true, apart := false }
def ObjectFullSaid : Prop := objectFullRow.holds Tryz.pinned (OpenSpec.ofChange objectFullSpec)

/-- ITS FALSE NEIGHBOUR: 'it returns false'. Refute it at one input. -/
def objectFullWrong : ChangeSpec := { name := "objectFull", fn := fun _ => fun
  | [d1, d2, d3, d4] => { results := [.lit (.bool false)], args := [d1, d2, d3, d4] }
  | _ => none }
def ObjectFullWrongFalsely : Prop := objectFullRow.holds Tryz.pinned (OpenSpec.ofChange objectFullWrong)

/- THE SECOND FORM. 'bulk': how many values and letters a reading holds, each counted each time it is reached (what is shared counts as often as it is met; a slice's spare places count too). A statement '..UptoSaid' is the law's where the arguments, and the package variables that the reading takes, are together of bulk at most 1048576: NARROWER than '..Said'. Prove '..Said' where nothing that the law and all that it calls make is longer than what came in: it says more and counts as full. Else prove '..UptoSaid'. A law counts once. -/
mutual
def uptoBulk {H : Type} : DataW H → Nat
  | .lit (.string bytes) => bytes.length + 1
  | .lit _ => 1
  | .nil => 1
  | .ptr d => uptoBulk d + 1
  | .slice elems spare => uptoBulkAll elems + uptoBulkAll spare + 1
  | .agg parts => uptoBulkAll parts + 1
  | .iface _ d => uptoBulk d + 1
  | .map entries => uptoBulkEntries entries + 1
  | .held _ => 1
def uptoBulkAll {H : Type} : List (DataW H) → Nat
  | [] => 0
  | d :: r => uptoBulk d + uptoBulkAll r
def uptoBulkEntries {H : Type} : List (Lit × DataW H) → Nat
  | [] => 0
  | x :: r => uptoBulkEntry x + uptoBulkEntries r
def uptoBulkEntry {H : Type} : Lit × DataW H → Nat
  | (.string bytes, d) => bytes.length + uptoBulk d + 1
  | (_, d) => uptoBulk d + 1
 end
def uptoSmall : (H : Type) → List (DataW H) → Bool := fun _ ds => decide (uptoBulkAll ds ≤ 1048576)
def OpenSpec.upto (s : _root_.Go.ChangeSpec) : _root_.Go.OpenSpec := { _root_.Go.OpenSpec.ofChange s with cond := some uptoSmall }

/-- 'reaperlaw12.ObjectDoes', WHERE WHAT IT READS IS OF BULK AT MOST 1048576: true; the input reads as it did. -/
def objectDoesUptoRow : OpenClaim := { program := "ytniefplgijpckaagreat", sum := "4451df2b11ec74a2a44b17f0ec274d276e08aaccee984594af53bb25cfce1d40", func := "reaper/reaperlaw12.ObjectDoes", spec := "objectDoes", unfollowed := true, recurses := true, apart := false, narrowed := true }
def ObjectDoesUptoSaid : Prop := objectDoesUptoRow.holds Tryz.pinned (OpenSpec.upto objectDoesSpec)

/-- 'reaperlaw12.ObjectPlain', WHERE WHAT IT READS IS OF BULK AT MOST 1048576: true; the input reads as it did. -/
def objectPlainUptoRow : OpenClaim := { program := "ytniefplgijpckaagreat", sum := "4451df2b11ec74a2a44b17f0ec274d276e08aaccee984594af53bb25cfce1d40", func := "reaper/reaperlaw12.ObjectPlain", spec := "objectPlain", unfollowed := true, recurses := true, apart := false, narrowed := true }
def ObjectPlainUptoSaid : Prop := objectPlainUptoRow.holds Tryz.pinned (OpenSpec.upto objectPlainSpec)

/-- 'reaperlaw12.ObjectSpec', WHERE WHAT IT READS IS OF BULK AT MOST 1048576: true; the input reads as it did. -/
def objectSpecUptoRow : OpenClaim := { program := "ytniefplgijpckaagreat", sum := "4451df2b11ec74a2a44b17f0ec274d276e08aaccee984594af53bb25cfce1d40", func := "reaper/reaperlaw12.ObjectSpec", spec := "objectSpec", unfollowed := true, recurses := true, apart := false, narrowed := true }
def ObjectSpecUptoSaid : Prop := objectSpecUptoRow.holds Tryz.pinned (OpenSpec.upto objectSpecSpec)

/-- 'reaperlaw12.ObjectCopy', WHERE WHAT IT READS IS OF BULK AT MOST 1048576: true; the input reads as it did. -/
def objectCopyUptoRow : OpenClaim := { program := "ytniefplgijpckaagreat", sum := "4451df2b11ec74a2a44b17f0ec274d276e08aaccee984594af53bb25cfce1d40", func := "reaper/reaperlaw12.ObjectCopy", spec := "objectCopy", unfollowed := true, recurses := true, apart := false, narrowed := true }
def ObjectCopyUptoSaid : Prop := objectCopyUptoRow.holds Tryz.pinned (OpenSpec.upto objectCopySpec)

/-- 'reaperlaw12.ObjectOne', WHERE WHAT IT READS IS OF BULK AT MOST 1048576: true; the input reads as it did. -/
def objectOneUptoRow : OpenClaim := { program := "ytniefplgijpckaagreat", sum := "4451df2b11ec74a2a44b17f0ec274d276e08aaccee984594af53bb25cfce1d40", func := "reaper/reaperlaw12.ObjectOne", spec := "objectOne", unfollowed := true, recurses := true, apart := false, narrowed := true }
def ObjectOneUptoSaid : Prop := objectOneUptoRow.holds Tryz.pinned (OpenSpec.upto objectOneSpec)

/-- 'reaperlaw12.ObjectFull', WHERE WHAT IT READS IS OF BULK AT MOST 1048576: true; the input reads as it did. -/
def objectFullUptoRow : OpenClaim := { program := "ytniefplgijpckaagreat", sum := "4451df2b11ec74a2a44b17f0ec274d276e08aaccee984594af53bb25cfce1d40", func := "reaper/reaperlaw12.ObjectFull", spec := "objectFull", unfollowed := true, recurses := true, apart := false, narrowed := true }
def ObjectFullUptoSaid : Prop := objectFullUptoRow.holds Tryz.pinned (OpenSpec.upto objectFullSpec)

end Rows
end Go.Proofs.YtniefplgijpckaaGreat
