/-
  No cell of these rows narrows 'for every input' (looked for: loops, veiled, ifaces, maps, wideKeys, modest, calm, conditions, laid).
  DERIVED. THE GIVEN ROWS OF THIS SEAT. 7 by the template 'for every input the law returns true; each argument reads behind the call as it read before'; 0 by the template 'total and deterministic' (their statements: YtejnadokjnfagaaTotals.lean).
  GIVEN WITH THE SEED: the statements are not yours to turn. If you find one false, say at which input.
  Laid BY PROGRAM, IN A SANDBOX (cutbox-rows.mjs): the forced cells as the released guide's own fill.sh prints them over the translation d817f4c9eb709aa1… (all of the seat's roots in one cut). By AI agents, Wed Nov 11 2026. No macro, syntax, notation, axiom, sorry.
-/
import Derived.Test.YtejnadokjnfagaaChecked
import GoSem.Claim
import GoSem.ClaimJoined
import GoSem.ClaimMapViews
import Derived.JoinedTies
import Derived.KernelRfl
namespace Go.Proofs.Ytejnadokjnfagaa
/- THE CELL 'sum', in the pinned program and in every row, IS THE sha256 OF THE DUMP (.gsa) THAT YtejnadokjnfagaaProg.lean LOADS. Nothing in Lean hashes anything: it is a label: what it is worth is what the hold of that sum in a sandbox is worth. -/
noncomputable def Try.pinned : Pinned := { name := "ytejnadokjnfagaa", sum := "d817f4c9eb709aa19a334e782ab919f38b2820926d6477018725b6b0c3fd945e", checked := Try.checked }
namespace Rows
def none {H : Type} : Left H := { results := [], args := [] }

/-- 'reaperlaw08.SpecAsks': WHATEVER THE INPUT: true; the input reads as it did. -/
def specAsksSpec : ChangeSpec := { name := "specAsks", fn := fun _ => fun
  | [d1, d2, d3, d4, d5, d6] => { results := [.lit (.bool true)], args := [d1, d2, d3, d4, d5, d6] }
  | _ => none }
def specAsksRow : OpenClaim := { program := "ytejnadokjnfagaa", sum := "d817f4c9eb709aa19a334e782ab919f38b2820926d6477018725b6b0c3fd945e", func := "reaper/reaperlaw08.SpecAsks", spec := "specAsks", inPlace := ["slices.overlaps[int32]"], unfollowed := true, recurses := true, apart := false }
def SpecAsksSaid : Prop := specAsksRow.holds Try.pinned (OpenSpec.ofChange specAsksSpec)

/-- ITS FALSE NEIGHBOUR: 'it returns false'. Refute it at one input. -/
def specAsksWrong : ChangeSpec := { name := "specAsks", fn := fun _ => fun
  | [d1, d2, d3, d4, d5, d6] => { results := [.lit (.bool false)], args := [d1, d2, d3, d4, d5, d6] }
  | _ => none }
def SpecAsksWrongFalsely : Prop := specAsksRow.holds Try.pinned (OpenSpec.ofChange specAsksWrong)

/-- 'reaperlaw08.SpecCounts': WHATEVER THE INPUT: true; the input reads as it did. -/
def specCountsSpec : ChangeSpec := { name := "specCounts", fn := fun _ => fun
  | [d1, d2, d3, d4, d5, d6] => { results := [.lit (.bool true)], args := [d1, d2, d3, d4, d5, d6] }
  | _ => none }
def specCountsRow : OpenClaim := { program := "ytejnadokjnfagaa", sum := "d817f4c9eb709aa19a334e782ab919f38b2820926d6477018725b6b0c3fd945e", func := "reaper/reaperlaw08.SpecCounts", spec := "specCounts", inPlace := ["slices.overlaps[int32]"], unfollowed := true, recurses := true, apart := false }
def SpecCountsSaid : Prop := specCountsRow.holds Try.pinned (OpenSpec.ofChange specCountsSpec)

/-- ITS FALSE NEIGHBOUR: 'it returns false'. Refute it at one input. -/
def specCountsWrong : ChangeSpec := { name := "specCounts", fn := fun _ => fun
  | [d1, d2, d3, d4, d5, d6] => { results := [.lit (.bool false)], args := [d1, d2, d3, d4, d5, d6] }
  | _ => none }
def SpecCountsWrongFalsely : Prop := specCountsRow.holds Try.pinned (OpenSpec.ofChange specCountsWrong)

/-- 'reaperlaw08.SpecOrder': WHATEVER THE INPUT: true; the input reads as it did. -/
def specOrderSpec : ChangeSpec := { name := "specOrder", fn := fun _ => fun
  | [d1, d2, d3] => { results := [.lit (.bool true)], args := [d1, d2, d3] }
  | _ => none }
def specOrderRow : OpenClaim := { program := "ytejnadokjnfagaa", sum := "d817f4c9eb709aa19a334e782ab919f38b2820926d6477018725b6b0c3fd945e", func := "reaper/reaperlaw08.SpecOrder", spec := "specOrder", inPlace := ["slices.overlaps[int32]"], unfollowed := true, recurses := true, apart := false }
def SpecOrderSaid : Prop := specOrderRow.holds Try.pinned (OpenSpec.ofChange specOrderSpec)

/-- ITS FALSE NEIGHBOUR: 'it returns false'. Refute it at one input. -/
def specOrderWrong : ChangeSpec := { name := "specOrder", fn := fun _ => fun
  | [d1, d2, d3] => { results := [.lit (.bool false)], args := [d1, d2, d3] }
  | _ => none }
def SpecOrderWrongFalsely : Prop := specOrderRow.holds Try.pinned (OpenSpec.ofChange specOrderWrong)

/-- 'reaperlaw08.SpecHeap': WHATEVER THE INPUT: true; the input reads as it did. -/
def specHeapSpec : ChangeSpec := { name := "specHeap", fn := fun _ => fun
  | [d1, d2] => { results := [.lit (.bool true)], args := [d1, d2] }
  | _ => none }
def specHeapRow : OpenClaim := { program := "ytejnadokjnfagaa", sum := "d817f4c9eb709aa19a334e782ab919f38b2820926d6477018725b6b0c3fd945e", func := "reaper/reaperlaw08.SpecHeap", spec := "specHeap", inPlace := ["slices.overlaps[int32]"], unfollowed := true, recurses := true, apart := false }
def SpecHeapSaid : Prop := specHeapRow.holds Try.pinned (OpenSpec.ofChange specHeapSpec)

/-- ITS FALSE NEIGHBOUR: 'it returns false'. Refute it at one input. -/
def specHeapWrong : ChangeSpec := { name := "specHeap", fn := fun _ => fun
  | [d1, d2] => { results := [.lit (.bool false)], args := [d1, d2] }
  | _ => none }
def SpecHeapWrongFalsely : Prop := specHeapRow.holds Try.pinned (OpenSpec.ofChange specHeapWrong)

/-- 'reaperlaw08.SpecParts': WHATEVER THE INPUT: true; the input reads as it did. -/
def specPartsSpec : ChangeSpec := { name := "specParts", fn := fun _ => fun
  | [d1, d2, d3, d4] => { results := [.lit (.bool true)], args := [d1, d2, d3, d4] }
  | _ => none }
def specPartsRow : OpenClaim := { program := "ytejnadokjnfagaa", sum := "d817f4c9eb709aa19a334e782ab919f38b2820926d6477018725b6b0c3fd945e", func := "reaper/reaperlaw08.SpecParts", spec := "specParts", inPlace := ["slices.overlaps[int32]"], unfollowed := true, recurses := true, apart := false }
def SpecPartsSaid : Prop := specPartsRow.holds Try.pinned (OpenSpec.ofChange specPartsSpec)

/-- ITS FALSE NEIGHBOUR: 'it returns false'. Refute it at one input. -/
def specPartsWrong : ChangeSpec := { name := "specParts", fn := fun _ => fun
  | [d1, d2, d3, d4] => { results := [.lit (.bool false)], args := [d1, d2, d3, d4] }
  | _ => none }
def SpecPartsWrongFalsely : Prop := specPartsRow.holds Try.pinned (OpenSpec.ofChange specPartsWrong)

/-- 'reaperlaw08.SpecFull': WHATEVER THE INPUT: true; the input reads as it did. -/
def specFullSpec : ChangeSpec := { name := "specFull", fn := fun _ => fun
  | [d1, d2, d3, d4] => { results := [.lit (.bool true)], args := [d1, d2, d3, d4] }
  | _ => none }
def specFullRow : OpenClaim := { program := "ytejnadokjnfagaa", sum := "d817f4c9eb709aa19a334e782ab919f38b2820926d6477018725b6b0c3fd945e", func := "reaper/reaperlaw08.SpecFull", spec := "specFull", inPlace := ["slices.overlaps[int32]"], unfollowed := true, recurses := true, apart := false }
def SpecFullSaid : Prop := specFullRow.holds Try.pinned (OpenSpec.ofChange specFullSpec)

/-- ITS FALSE NEIGHBOUR: 'it returns false'. Refute it at one input. -/
def specFullWrong : ChangeSpec := { name := "specFull", fn := fun _ => fun
  | [d1, d2, d3, d4] => { results := [.lit (.bool false)], args := [d1, d2, d3, d4] }
  | _ => none }
def SpecFullWrongFalsely : Prop := specFullRow.holds Try.pinned (OpenSpec.ofChange specFullWrong)

/-- 'reaperlaw08.SpecBack': WHATEVER THE INPUT: true; the input reads as it did. -/
def specBackSpec : ChangeSpec := { name := "specBack", fn := fun _ => fun
  | [d1, d2, d3] => { results := [.lit (.bool true)], args := [d1, d2, d3] }
  | _ => none }
def specBackRow : OpenClaim := { program := "ytejnadokjnfagaa", sum := "d817f4c9eb709aa19a334e782ab919f38b2820926d6477018725b6b0c3fd945e", func := "reaper/reaperlaw08.SpecBack", spec := "specBack", inPlace := ["slices.overlaps[int32]"], unfollowed := true, recurses := true, apart := false }
def SpecBackSaid : Prop := specBackRow.holds Try.pinned (OpenSpec.ofChange specBackSpec)

/-- ITS FALSE NEIGHBOUR: 'it returns false'. Refute it at one input. -/
def specBackWrong : ChangeSpec := { name := "specBack", fn := fun _ => fun
  | [d1, d2, d3] => { results := [.lit (.bool false)], args := [d1, d2, d3] }
  | _ => none }
def SpecBackWrongFalsely : Prop := specBackRow.holds Try.pinned (OpenSpec.ofChange specBackWrong)

/- THE SECOND FORM. 'bulk': how many values and letters a reading holds, each counted each time it is reached (what is shared counts as often as it is met; a slice's spare places count too). A statement '..UptoSaid' is the law's where the arguments, and the package variables that the reading takes, are together of bulk at most 1048576: NARROWER than '..Said'. Prove '..Said' where nothing that the law and all that it calls make is longer than what came in: it says more and counts as full. Else prove '..UptoSaid'. A law counts once. -/
mutual
def uptoBulk {H : Type} : DataW H → Nat
  | .lit (.string bytes) => bytes.length + 1
  | .lit _ => 1
  | .nil => 1
  | .ptr d => uptoBulk d + 1
  | .slice elems spare => uptoBulkAll elems + uptoBulkAll spare + 1
  | .agg parts => uptoBulkAll parts + 1
  | .iface _ d => uptoBulk d + 1
  | .map entries => uptoBulkEntries entries + 1
  | .held _ => 1
def uptoBulkAll {H : Type} : List (DataW H) → Nat
  | [] => 0
  | d :: r => uptoBulk d + uptoBulkAll r
def uptoBulkEntries {H : Type} : List (Lit × DataW H) → Nat
  | [] => 0
  | x :: r => uptoBulkEntry x + uptoBulkEntries r
def uptoBulkEntry {H : Type} : Lit × DataW H → Nat
  | (.string bytes, d) => bytes.length + uptoBulk d + 1
  | (_, d) => uptoBulk d + 1
 end
def uptoSmall : (H : Type) → List (DataW H) → Bool := fun _ ds => decide (uptoBulkAll ds ≤ 1048576)
def OpenSpec.upto (s : _root_.Go.ChangeSpec) : _root_.Go.OpenSpec := { _root_.Go.OpenSpec.ofChange s with cond := some uptoSmall }

/-- 'reaperlaw08.SpecAsks', WHERE WHAT IT READS IS OF BULK AT MOST 1048576: true; the input reads as it did. -/
def specAsksUptoRow : OpenClaim := { program := "ytejnadokjnfagaa", sum := "d817f4c9eb709aa19a334e782ab919f38b2820926d6477018725b6b0c3fd945e", func := "reaper/reaperlaw08.SpecAsks", spec := "specAsks", inPlace := ["slices.overlaps[int32]"], unfollowed := true, recurses := true, apart := false, narrowed := true }
def SpecAsksUptoSaid : Prop := specAsksUptoRow.holds Try.pinned (OpenSpec.upto specAsksSpec)

/-- 'reaperlaw08.SpecCounts', WHERE WHAT IT READS IS OF BULK AT MOST 1048576: true; the input reads as it did. -/
def specCountsUptoRow : OpenClaim := { program := "ytejnadokjnfagaa", sum := "d817f4c9eb709aa19a334e782ab919f38b2820926d6477018725b6b0c3fd945e", func := "reaper/reaperlaw08.SpecCounts", spec := "specCounts", inPlace := ["slices.overlaps[int32]"], unfollowed := true, recurses := true, apart := false, narrowed := true }
def SpecCountsUptoSaid : Prop := specCountsUptoRow.holds Try.pinned (OpenSpec.upto specCountsSpec)

/-- 'reaperlaw08.SpecOrder', WHERE WHAT IT READS IS OF BULK AT MOST 1048576: true; the input reads as it did. -/
def specOrderUptoRow : OpenClaim := { program := "ytejnadokjnfagaa", sum := "d817f4c9eb709aa19a334e782ab919f38b2820926d6477018725b6b0c3fd945e", func := "reaper/reaperlaw08.SpecOrder", spec := "specOrder", inPlace := ["slices.overlaps[int32]"], unfollowed := true, recurses := true, apart := false, narrowed := true }
def SpecOrderUptoSaid : Prop := specOrderUptoRow.holds Try.pinned (OpenSpec.upto specOrderSpec)

/-- 'reaperlaw08.SpecHeap', WHERE WHAT IT READS IS OF BULK AT MOST 1048576: true; the input reads as it did. -/
def specHeapUptoRow : OpenClaim := { program := "ytejnadokjnfagaa", sum := "d817f4c9eb709aa19a334e782ab919f38b2820926d6477018725b6b0c3fd945e", func := "reaper/reaperlaw08.SpecHeap", spec := "specHeap", inPlace := ["slices.overlaps[int32]"], unfollowed := true, recurses := true, apart := false, narrowed := true }
def SpecHeapUptoSaid : Prop := specHeapUptoRow.holds Try.pinned (OpenSpec.upto specHeapSpec)

/-- 'reaperlaw08.SpecParts', WHERE WHAT IT READS IS OF BULK AT MOST 1048576: true; the input reads as it did. -/
def specPartsUptoRow : OpenClaim := { program := "ytejnadokjnfagaa", sum := "d817f4c9eb709aa19a334e782ab919f38b2820926d6477018725b6b0c3fd945e", func := "reaper/reaperlaw08.SpecParts", spec := "specParts", inPlace := ["slices.overlaps[int32]"], unfollowed := true, recurses := true, apart := false, narrowed := true }
def SpecPartsUptoSaid : Prop := specPartsUptoRow.holds Try.pinned (OpenSpec.upto specPartsSpec)

/-- 'reaperlaw08.SpecFull', WHERE WHAT IT READS IS OF BULK AT MOST 1048576: true; the input reads as it did. -/
def specFullUptoRow : OpenClaim := { program := "ytejnadokjnfagaa", sum := "d817f4c9eb709aa19a334e782ab919f38b2820926d6477018725b6b0c3fd945e", func := "reaper/reaperlaw08.SpecFull", spec := "specFull", inPlace := ["slices.overlaps[int32]"], unfollowed := true, recurses := true, apart := false, narrowed := true }
def SpecFullUptoSaid : Prop := specFullUptoRow.holds Try.pinned (OpenSpec.upto specFullSpec)

/-- 'reaperlaw08.SpecBack', WHERE WHAT IT READS IS OF BULK AT MOST 1048576: true; the input reads as it did. -/
def specBackUptoRow : OpenClaim := { program := "ytejnadokjnfagaa", sum := "d817f4c9eb709aa19a334e782ab919f38b2820926d6477018725b6b0c3fd945e", func := "reaper/reaperlaw08.SpecBack", spec := "specBack", inPlace := ["slices.overlaps[int32]"], unfollowed := true, recurses := true, apart := false, narrowed := true }
def SpecBackUptoSaid : Prop := specBackUptoRow.holds Try.pinned (OpenSpec.upto specBackSpec)

end Rows
end Go.Proofs.Ytejnadokjnfagaa
