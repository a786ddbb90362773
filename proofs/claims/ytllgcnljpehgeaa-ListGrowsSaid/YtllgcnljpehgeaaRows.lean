/-
  No cell of these rows narrows 'for every input' (looked for: loops, veiled, ifaces, maps, wideKeys, modest, calm, conditions, laid).
  DERIVED. THE GIVEN ROWS OF THIS SEAT. 6 by the template 'for every input the law returns true; each argument reads behind the call as it read before'; 0 by the template 'total and deterministic' (their statements: YtllgcnljpehgeaaTotals.lean).
  GIVEN WITH THE SEED: the statements are not yours to turn. If you find one false, say at which input.
  Laid BY PROGRAM, IN A SANDBOX (cutbox-rows.mjs): the forced cells as the released guide's own fill.sh prints them over the translation fc445a4760e89d37… (all of the seat's roots in one cut). By AI agents, Wed Nov 11 2026. No macro, syntax, notation, axiom, sorry.
-/
import Derived.Test.YtllgcnljpehgeaaChecked
import GoSem.Claim
import GoSem.ClaimJoined
import GoSem.ClaimMapViews
import Derived.JoinedTies
import Derived.KernelRfl
namespace Go.Proofs.Ytllgcnljpehgeaa
/- THE CELL 'sum', in the pinned program and in every row, IS THE sha256 OF THE DUMP (.gsa) THAT YtllgcnljpehgeaaProg.lean LOADS. Nothing in Lean hashes anything: it is a label: what it is worth is what the hold of that sum in a sandbox is worth. -/
noncomputable def Try.pinned : Pinned := { name := "ytllgcnljpehgeaa", sum := "fc445a4760e89d37e06d16c1e4a4b930a262ddbdff56b1e449c4e5c0aa748d0d", checked := Try.checked }
namespace Rows
def none {H : Type} : Left H := { results := [], args := [] }

/-- 'reaperlaw14.ListAsks': WHATEVER THE INPUT: true; the input reads as it did. -/
def listAsksSpec : ChangeSpec := { name := "listAsks", fn := fun _ => fun
  | [d1, d2, d3, d4] => { results := [.lit (.bool true)], args := [d1, d2, d3, d4] }
  | _ => none }
def listAsksRow : OpenClaim := { program := "ytllgcnljpehgeaa", sum := "fc445a4760e89d37e06d16c1e4a4b930a262ddbdff56b1e449c4e5c0aa748d0d", func := "reaper/reaperlaw14.ListAsks", spec := "listAsks", unfollowed := true, recurses := true, apart := false }
def ListAsksSaid : Prop := listAsksRow.holds Try.pinned (OpenSpec.ofChange listAsksSpec)

/-- ITS FALSE NEIGHBOUR: 'it returns false'. Refute it at one input. -/
def listAsksWrong : ChangeSpec := { name := "listAsks", fn := fun _ => fun
  | [d1, d2, d3, d4] => { results := [.lit (.bool false)], args := [d1, d2, d3, d4] }
  | _ => none }
def ListAsksWrongFalsely : Prop := listAsksRow.holds Try.pinned (OpenSpec.ofChange listAsksWrong)

/-- 'reaperlaw14.ListChain': WHATEVER THE INPUT: true; the input reads as it did. -/
def listChainSpec : ChangeSpec := { name := "listChain", fn := fun _ => fun
  | [d1, d2] => { results := [.lit (.bool true)], args := [d1, d2] }
  | _ => none }
def listChainRow : OpenClaim := { program := "ytllgcnljpehgeaa", sum := "fc445a4760e89d37e06d16c1e4a4b930a262ddbdff56b1e449c4e5c0aa748d0d", func := "reaper/reaperlaw14.ListChain", spec := "listChain", unfollowed := true, recurses := true, apart := false }
def ListChainSaid : Prop := listChainRow.holds Try.pinned (OpenSpec.ofChange listChainSpec)

/-- ITS FALSE NEIGHBOUR: 'it returns false'. Refute it at one input. -/
def listChainWrong : ChangeSpec := { name := "listChain", fn := fun _ => fun
  | [d1, d2] => { results := [.lit (.bool false)], args := [d1, d2] }
  | _ => none }
def ListChainWrongFalsely : Prop := listChainRow.holds Try.pinned (OpenSpec.ofChange listChainWrong)

/-- 'reaperlaw14.ListWrong': WHATEVER THE INPUT: true; the input reads as it did. -/
def listWrongSpec : ChangeSpec := { name := "listWrong", fn := fun _ => fun
  | [d1, d2, d3] => { results := [.lit (.bool true)], args := [d1, d2, d3] }
  | _ => none }
def listWrongRow : OpenClaim := { program := "ytllgcnljpehgeaa", sum := "fc445a4760e89d37e06d16c1e4a4b930a262ddbdff56b1e449c4e5c0aa748d0d", func := "reaper/reaperlaw14.ListWrong", spec := "listWrong", unfollowed := true, recurses := true, apart := false }
def ListWrongSaid : Prop := listWrongRow.holds Try.pinned (OpenSpec.ofChange listWrongSpec)

/-- ITS FALSE NEIGHBOUR: 'it returns false'. Refute it at one input. -/
def listWrongWrong : ChangeSpec := { name := "listWrong", fn := fun _ => fun
  | [d1, d2, d3] => { results := [.lit (.bool false)], args := [d1, d2, d3] }
  | _ => none }
def ListWrongWrongFalsely : Prop := listWrongRow.holds Try.pinned (OpenSpec.ofChange listWrongWrong)

/-- 'reaperlaw14.ListStale': WHATEVER THE INPUT: true; the input reads as it did. -/
def listStaleSpec : ChangeSpec := { name := "listStale", fn := fun _ => fun
  | [d1, d2, d3, d4, d5] => { results := [.lit (.bool true)], args := [d1, d2, d3, d4, d5] }
  | _ => none }
def listStaleRow : OpenClaim := { program := "ytllgcnljpehgeaa", sum := "fc445a4760e89d37e06d16c1e4a4b930a262ddbdff56b1e449c4e5c0aa748d0d", func := "reaper/reaperlaw14.ListStale", spec := "listStale", unfollowed := true, recurses := true, apart := false }
def ListStaleSaid : Prop := listStaleRow.holds Try.pinned (OpenSpec.ofChange listStaleSpec)

/-- ITS FALSE NEIGHBOUR: 'it returns false'. Refute it at one input. -/
def listStaleWrong : ChangeSpec := { name := "listStale", fn := fun _ => fun
  | [d1, d2, d3, d4, d5] => { results := [.lit (.bool false)], args := [d1, d2, d3, d4, d5] }
  | _ => none }
def ListStaleWrongFalsely : Prop := listStaleRow.holds Try.pinned (OpenSpec.ofChange listStaleWrong)

/-- 'reaperlaw14.ListGrows': WHATEVER THE INPUT: true; the input reads as it did. -/
def listGrowsSpec : ChangeSpec := { name := "listGrows", fn := fun _ => fun
  | [d1, d2, d3] => { results := [.lit (.bool true)], args := [d1, d2, d3] }
  | _ => none }
def listGrowsRow : OpenClaim := { program := "ytllgcnljpehgeaa", sum := "fc445a4760e89d37e06d16c1e4a4b930a262ddbdff56b1e449c4e5c0aa748d0d", func := "reaper/reaperlaw14.ListGrows", spec := "listGrows", unfollowed := true, recurses := true, apart := false }
def ListGrowsSaid : Prop := listGrowsRow.holds Try.pinned (OpenSpec.ofChange listGrowsSpec)

/-- ITS FALSE NEIGHBOUR: 'it returns false'. Refute it at one input. -/
def listGrowsWrong : ChangeSpec := { name := "listGrows", fn := fun _ => fun
  | [d1, d2, d3] => { results := [.lit (.bool false)], args := [d1, d2, d3] }
  | _ => none }
def ListGrowsWrongFalsely : Prop := listGrowsRow.holds Try.pinned (OpenSpec.ofChange listGrowsWrong)

/-- 'reaperlaw14.ListLooks': WHATEVER THE INPUT: true; the input reads as it did. -/
def listLooksSpec : ChangeSpec := { name := "listLooks", fn := fun _ => fun
  | [d1, d2, d3] => { results := [.lit (.bool true)], args := [d1, d2, d3] }
  | _ => none }
def listLooksRow : OpenClaim := { program := "ytllgcnljpehgeaa", sum := "fc445a4760e89d37e06d16c1e4a4b930a262ddbdff56b1e449c4e5c0aa748d0d", func := "reaper/reaperlaw14.ListLooks", spec := "listLooks", unfollowed := true, recurses := true, apart := false }
def ListLooksSaid : Prop := listLooksRow.holds Try.pinned (OpenSpec.ofChange listLooksSpec)

/-- ITS FALSE NEIGHBOUR: 'it returns false'. Refute it at one input. -/
def listLooksWrong : ChangeSpec := { name := "listLooks", fn := fun _ => fun
  | [d1, d2, d3] => { results := [.lit (.bool false)], args := [d1, d2, d3] }
  | _ => none }
def ListLooksWrongFalsely : Prop := listLooksRow.holds Try.pinned (OpenSpec.ofChange listLooksWrong)

/- THE SECOND FORM. 'bulk': how many values and letters a reading holds, each counted each time it is reached (what is shared counts as often as it is met; a slice's spare places count too). A statement '..UptoSaid' is the law's where the arguments, and the package variables that the reading takes, are together of bulk at most 1048576: NARROWER than '..Said'. Prove '..Said' where nothing that the law and all that it calls make is longer than what came in: it says more and counts as full. Else prove '..UptoSaid'. A law counts once. -/
mutual
def uptoBulk {H : Type} : DataW H → Nat
  | .lit (.string bytes) => bytes.length + 1
  | .lit _ => 1
  | .nil => 1
  | .ptr d => uptoBulk d + 1
  | .slice elems spare => uptoBulkAll elems + uptoBulkAll spare + 1
  | .agg parts => uptoBulkAll parts + 1
  | .iface _ d => uptoBulk d + 1
  | .map entries => uptoBulkEntries entries + 1
  | .held _ => 1
def uptoBulkAll {H : Type} : List (DataW H) → Nat
  | [] => 0
  | d :: r => uptoBulk d + uptoBulkAll r
def uptoBulkEntries {H : Type} : List (Lit × DataW H) → Nat
  | [] => 0
  | x :: r => uptoBulkEntry x + uptoBulkEntries r
def uptoBulkEntry {H : Type} : Lit × DataW H → Nat
  | (.string bytes, d) => bytes.length + uptoBulk d + 1
  | (_, d) => uptoBulk d + 1
 end
def uptoSmall : (H : Type) → List (DataW H) → Bool := fun _ ds => decide (uptoBulkAll ds ≤ 1048576)
def OpenSpec.upto (s : _root_.Go.ChangeSpec) : _root_.Go.OpenSpec := { _root_.Go.OpenSpec.ofChange s with cond := some uptoSmall }

/-- 'reaperlaw14.ListAsks', WHERE WHAT IT READS IS OF BULK AT MOST 1048576: true; the input reads as it did. -/
def listAsksUptoRow : OpenClaim := { program := "ytllgcnljpehgeaa", sum := "fc445a4760e89d37e06d16c1e4a4b930a262ddbdff56b1e449c4e5c0aa748d0d", func := "reaper/reaperlaw14.ListAsks", spec := "listAsks", unfollowed := true, recurses := true, apart := false, narrowed := true }
def ListAsksUptoSaid : Prop := listAsksUptoRow.holds Try.pinned (OpenSpec.upto listAsksSpec)

/-- 'reaperlaw14.ListChain', WHERE WHAT IT READS IS OF BULK AT MOST 1048576: true; the input reads as it did. -/
def listChainUptoRow : OpenClaim := { program := "ytllgcnljpehgeaa", sum := "fc445a4760e89d37e06d16c1e4a4b930a262ddbdff56b1e449c4e5c0aa748d0d", func := "reaper/reaperlaw14.ListChain", spec := "listChain", unfollowed := true, recurses := true, apart := false, narrowed := true }
def ListChainUptoSaid : Prop := listChainUptoRow.holds Try.pinned (OpenSpec.upto listChainSpec)

/-- 'reaperlaw14.ListWrong', WHERE WHAT IT READS IS OF BULK AT MOST 1048576: true; the input reads as it did. -/
def listWrongUptoRow : OpenClaim := { program := "ytllgcnljpehgeaa", sum := "fc445a4760e89d37e06d16c1e4a4b930a262ddbdff56b1e449c4e5c0aa748d0d", func := "reaper/reaperlaw14.ListWrong", spec := "listWrong", unfollowed := true, recurses := true, apart := false, narrowed := true }
def ListWrongUptoSaid : Prop := listWrongUptoRow.holds Try.pinned (OpenSpec.upto listWrongSpec)

/-- 'reaperlaw14.ListStale', WHERE WHAT IT READS IS OF BULK AT MOST 1048576: true; the input reads as it did. -/
def listStaleUptoRow : OpenClaim := { program := "ytllgcnljpehgeaa", sum := "fc445a4760e89d37e06d16c1e4a4b930a262ddbdff56b1e449c4e5c0aa748d0d", func := "reaper/reaperlaw14.ListStale", spec := "listStale", unfollowed := true, recurses := true, apart := false, narrowed := true }
def ListStaleUptoSaid : Prop := listStaleUptoRow.holds Try.pinned (OpenSpec.upto listStaleSpec)

/-- 'reaperlaw14.ListGrows', WHERE WHAT IT READS IS OF BULK AT MOST 1048576: true; the input reads as it did. -/
def listGrowsUptoRow : OpenClaim := { program := "ytllgcnljpehgeaa", sum := "fc445a4760e89d37e06d16c1e4a4b930a262ddbdff56b1e449c4e5c0aa748d0d", func := "reaper/reaperlaw14.ListGrows", spec := "listGrows", unfollowed := true, recurses := true, apart := false, narrowed := true }
def ListGrowsUptoSaid : Prop := listGrowsUptoRow.holds Try.pinned (OpenSpec.upto listGrowsSpec)

/-- 'reaperlaw14.ListLooks', WHERE WHAT IT READS IS OF BULK AT MOST 1048576: true; the input reads as it did. -/
def listLooksUptoRow : OpenClaim := { program := "ytllgcnljpehgeaa", sum := "fc445a4760e89d37e06d16c1e4a4b930a262ddbdff56b1e449c4e5c0aa748d0d", func := "reaper/reaperlaw14.ListLooks", spec := "listLooks", unfollowed := true, recurses := true, apart := false, narrowed := true }
def ListLooksUptoSaid : Prop := listLooksUptoRow.holds Try.pinned (OpenSpec.upto listLooksSpec)

end Rows
end Go.Proofs.Ytllgcnljpehgeaa
