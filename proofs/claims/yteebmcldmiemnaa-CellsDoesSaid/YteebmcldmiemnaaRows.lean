/-
  No cell of these rows narrows 'for every input' (looked for: loops, veiled, ifaces, maps, wideKeys, modest, calm, conditions, laid).
  DERIVED. THE GIVEN ROWS OF THIS SEAT. 6 by the template 'for every input the law returns true; each argument reads behind the call as it read before'; 0 by the template 'total and deterministic' (their statements: YteebmcldmiemnaaTotals.lean).
  GIVEN WITH THE SEED: the statements are not yours to turn. If you find one false, say at which input.
  Laid BY PROGRAM, IN A SANDBOX (cutbox-rows.mjs): the forced cells as the released guide's own fill.sh prints them over the translation 61345d0b552fc08e… (all of the seat's roots in one cut). By AI agents, Wed Nov 11 2026. No macro, syntax, notation, axiom, sorry.
-/
import Derived.Test.YteebmcldmiemnaaChecked
import GoSem.Claim
import GoSem.ClaimJoined
import GoSem.ClaimMapViews
import Derived.JoinedTies
import Derived.KernelRfl
namespace Go.Proofs.Yteebmcldmiemnaa
/- THE CELL 'sum', in the pinned program and in every row, IS THE sha256 OF THE DUMP (.gsa) THAT YteebmcldmiemnaaProg.lean LOADS. Nothing in Lean hashes anything: it is a label: what it is worth is what the hold of that sum in a sandbox is worth. -/
noncomputable def Try.pinned : Pinned := { name := "yteebmcldmiemnaa", sum := "61345d0b552fc08e07c680e54c77cc8d095926f7e05b28246ee66e3b00af1465", checked := Try.checked }
namespace Rows
def none {H : Type} : Left H := { results := [], args := [] }

/-- 'reaperlaw02.CellsDoes': WHATEVER THE INPUT: true; the input reads as it did. -/
def cellsDoesSpec : ChangeSpec := { name := "cellsDoes", fn := fun _ => fun
  | [d1, d2, d3] => { results := [.lit (.bool true)], args := [d1, d2, d3] }
  | _ => none }
def cellsDoesRow : OpenClaim := { program := "yteebmcldmiemnaa", sum := "61345d0b552fc08e07c680e54c77cc8d095926f7e05b28246ee66e3b00af1465", func := "reaper/reaperlaw02.CellsDoes", spec := "cellsDoes", unfollowed := true, recurses := true, apart := false }
def CellsDoesSaid : Prop := cellsDoesRow.holds Try.pinned (OpenSpec.ofChange cellsDoesSpec)

/-- ITS FALSE NEIGHBOUR: 'it returns false'. Refute it at one input. -/
def cellsDoesWrong : ChangeSpec := { name := "cellsDoes", fn := fun _ => fun
  | [d1, d2, d3] => { results := [.lit (.bool false)], args := [d1, d2, d3] }
  | _ => none }
def CellsDoesWrongFalsely : Prop := cellsDoesRow.holds Try.pinned (OpenSpec.ofChange cellsDoesWrong)

/-- 'reaperlaw02.CellsLast': WHATEVER THE INPUT: true; the input reads as it did. -/
def cellsLastSpec : ChangeSpec := { name := "cellsLast", fn := fun _ => fun
  | [d1, d2, d3, d4, d5, d6] => { results := [.lit (.bool true)], args := [d1, d2, d3, d4, d5, d6] }
  | _ => none }
def cellsLastRow : OpenClaim := { program := "yteebmcldmiemnaa", sum := "61345d0b552fc08e07c680e54c77cc8d095926f7e05b28246ee66e3b00af1465", func := "reaper/reaperlaw02.CellsLast", spec := "cellsLast", unfollowed := true, recurses := true, apart := false }
def CellsLastSaid : Prop := cellsLastRow.holds Try.pinned (OpenSpec.ofChange cellsLastSpec)

/-- ITS FALSE NEIGHBOUR: 'it returns false'. Refute it at one input. -/
def cellsLastWrong : ChangeSpec := { name := "cellsLast", fn := fun _ => fun
  | [d1, d2, d3, d4, d5, d6] => { results := [.lit (.bool false)], args := [d1, d2, d3, d4, d5, d6] }
  | _ => none }
def CellsLastWrongFalsely : Prop := cellsLastRow.holds Try.pinned (OpenSpec.ofChange cellsLastWrong)

/-- 'reaperlaw02.CellsRoom': WHATEVER THE INPUT: true; the input reads as it did. -/
def cellsRoomSpec : ChangeSpec := { name := "cellsRoom", fn := fun _ => fun
  | [d1, d2, d3] => { results := [.lit (.bool true)], args := [d1, d2, d3] }
  | _ => none }
def cellsRoomRow : OpenClaim := { program := "yteebmcldmiemnaa", sum := "61345d0b552fc08e07c680e54c77cc8d095926f7e05b28246ee66e3b00af1465", func := "reaper/reaperlaw02.CellsRoom", spec := "cellsRoom", unfollowed := true, recurses := true, apart := false }
def CellsRoomSaid : Prop := cellsRoomRow.holds Try.pinned (OpenSpec.ofChange cellsRoomSpec)

/-- ITS FALSE NEIGHBOUR: 'it returns false'. Refute it at one input. -/
def cellsRoomWrong : ChangeSpec := { name := "cellsRoom", fn := fun _ => fun
  | [d1, d2, d3] => { results := [.lit (.bool false)], args := [d1, d2, d3] }
  | _ => none }
def CellsRoomWrongFalsely : Prop := cellsRoomRow.holds Try.pinned (OpenSpec.ofChange cellsRoomWrong)

/-- 'reaperlaw02.CellsCopy': WHATEVER THE INPUT: true; the input reads as it did. -/
def cellsCopySpec : ChangeSpec := { name := "cellsCopy", fn := fun _ => fun
  | [d1, d2, d3] => { results := [.lit (.bool true)], args := [d1, d2, d3] }
  | _ => none }
def cellsCopyRow : OpenClaim := { program := "yteebmcldmiemnaa", sum := "61345d0b552fc08e07c680e54c77cc8d095926f7e05b28246ee66e3b00af1465", func := "reaper/reaperlaw02.CellsCopy", spec := "cellsCopy", unfollowed := true, recurses := true, apart := false }
def CellsCopySaid : Prop := cellsCopyRow.holds Try.pinned (OpenSpec.ofChange cellsCopySpec)

/-- ITS FALSE NEIGHBOUR: 'it returns false'. Refute it at one input. -/
def cellsCopyWrong : ChangeSpec := { name := "cellsCopy", fn := fun _ => fun
  | [d1, d2, d3] => { results := [.lit (.bool false)], args := [d1, d2, d3] }
  | _ => none }
def CellsCopyWrongFalsely : Prop := cellsCopyRow.holds Try.pinned (OpenSpec.ofChange cellsCopyWrong)

/-- 'reaperlaw02.CellsSwaps': WHATEVER THE INPUT: true; the input reads as it did. -/
def cellsSwapsSpec : ChangeSpec := { name := "cellsSwaps", fn := fun _ => fun
  | [d1, d2, d3, d4, d5] => { results := [.lit (.bool true)], args := [d1, d2, d3, d4, d5] }
  | _ => none }
def cellsSwapsRow : OpenClaim := { program := "yteebmcldmiemnaa", sum := "61345d0b552fc08e07c680e54c77cc8d095926f7e05b28246ee66e3b00af1465", func := "reaper/reaperlaw02.CellsSwaps", spec := "cellsSwaps", unfollowed := true, recurses := true, apart := false }
def CellsSwapsSaid : Prop := cellsSwapsRow.holds Try.pinned (OpenSpec.ofChange cellsSwapsSpec)

/-- ITS FALSE NEIGHBOUR: 'it returns false'. Refute it at one input. -/
def cellsSwapsWrong : ChangeSpec := { name := "cellsSwaps", fn := fun _ => fun
  | [d1, d2, d3, d4, d5] => { results := [.lit (.bool false)], args := [d1, d2, d3, d4, d5] }
  | _ => none }
def CellsSwapsWrongFalsely : Prop := cellsSwapsRow.holds Try.pinned (OpenSpec.ofChange cellsSwapsWrong)

/-- 'reaperlaw02.CellsCounts': WHATEVER THE INPUT: true; the input reads as it did. -/
def cellsCountsSpec : ChangeSpec := { name := "cellsCounts", fn := fun _ => fun
  | [d1, d2, d3] => { results := [.lit (.bool true)], args := [d1, d2, d3] }
  | _ => none }
def cellsCountsRow : OpenClaim := { program := "yteebmcldmiemnaa", sum := "61345d0b552fc08e07c680e54c77cc8d095926f7e05b28246ee66e3b00af1465", func := "reaper/reaperlaw02.CellsCounts", spec := "cellsCounts", unfollowed := true, recurses := true, apart := false }
def CellsCountsSaid : Prop := cellsCountsRow.holds Try.pinned (OpenSpec.ofChange cellsCountsSpec)

/-- ITS FALSE NEIGHBOUR: 'it returns false'. Refute it at one input. -/
def cellsCountsWrong : ChangeSpec := { name := "cellsCounts", fn := fun _ => fun
  | [d1, d2, d3] => { results := [.lit (.bool false)], args := [d1, d2, d3] }
  | _ => none }
def CellsCountsWrongFalsely : Prop := cellsCountsRow.holds Try.pinned (OpenSpec.ofChange cellsCountsWrong)

/- THE SECOND FORM. 'bulk': how many values and letters a reading holds, each counted each time it is reached (what is shared counts as often as it is met; a slice's spare places count too). A statement '..UptoSaid' is the law's where the arguments, and the package variables that the reading takes, are together of bulk at most 1048576: NARROWER than '..Said'. Prove '..Said' where nothing that the law and all that it calls make is longer than what came in: it says more and counts as full. Else prove '..UptoSaid'. A law counts once. -/
mutual
def uptoBulk {H : Type} : DataW H → Nat
  | .lit (.string bytes) => bytes.length + 1
  | .lit _ => 1
  | .nil => 1
  | .ptr d => uptoBulk d + 1
  | .slice elems spare => uptoBulkAll elems + uptoBulkAll spare + 1
  | .agg parts => uptoBulkAll parts + 1
  | .iface _ d => uptoBulk d + 1
  | .map entries => uptoBulkEntries entries + 1
  | .held _ => 1
def uptoBulkAll {H : Type} : List (DataW H) → Nat
  | [] => 0
  | d :: r => uptoBulk d + uptoBulkAll r
def uptoBulkEntries {H : Type} : List (Lit × DataW H) → Nat
  | [] => 0
  | x :: r => uptoBulkEntry x + uptoBulkEntries r
def uptoBulkEntry {H : Type} : Lit × DataW H → Nat
  | (.string bytes, d) => bytes.length + uptoBulk d + 1
  | (_, d) => uptoBulk d + 1
 end
def uptoSmall : (H : Type) → List (DataW H) → Bool := fun _ ds => decide (uptoBulkAll ds ≤ 1048576)
def OpenSpec.upto (s : _root_.Go.ChangeSpec) : _root_.Go.OpenSpec := { _root_.Go.OpenSpec.ofChange s with cond := some uptoSmall }

/-- 'reaperlaw02.CellsDoes', WHERE WHAT IT READS IS OF BULK AT MOST 1048576: true; the input reads as it did. -/
def cellsDoesUptoRow : OpenClaim := { program := "yteebmcldmiemnaa", sum := "61345d0b552fc08e07c680e54c77cc8d095926f7e05b28246ee66e3b00af1465", func := "reaper/reaperlaw02.CellsDoes", spec := "cellsDoes", unfollowed := true, recurses := true, apart := false, narrowed := true }
def CellsDoesUptoSaid : Prop := cellsDoesUptoRow.holds Try.pinned (OpenSpec.upto cellsDoesSpec)

/-- 'reaperlaw02.CellsLast', WHERE WHAT IT READS IS OF BULK AT MOST 1048576: true; the input reads as it did. -/
def cellsLastUptoRow : OpenClaim := { program := "yteebmcldmiemnaa", sum := "61345d0b552fc08e07c680e54c77cc8d095926f7e05b28246ee66e3b00af1465", func := "reaper/reaperlaw02.CellsLast", spec := "cellsLast", unfollowed := true, recurses := true, apart := false, narrowed := true }
def CellsLastUptoSaid : Prop := cellsLastUptoRow.holds Try.pinned (OpenSpec.upto cellsLastSpec)

/-- 'reaperlaw02.CellsRoom', WHERE WHAT IT READS IS OF BULK AT MOST 1048576: true; the input reads as it did. -/
def cellsRoomUptoRow : OpenClaim := { program := "yteebmcldmiemnaa", sum := "61345d0b552fc08e07c680e54c77cc8d095926f7e05b28246ee66e3b00af1465", func := "reaper/reaperlaw02.CellsRoom", spec := "cellsRoom", unfollowed := true, recurses := true, apart := false, narrowed := true }
def CellsRoomUptoSaid : Prop := cellsRoomUptoRow.holds Try.pinned (OpenSpec.upto cellsRoomSpec)

/-- 'reaperlaw02.CellsCopy', WHERE WHAT IT READS IS OF BULK AT MOST 1048576: true; the input reads as it did. -/
def cellsCopyUptoRow : OpenClaim := { program := "yteebmcldmiemnaa", sum := "61345d0b552fc08e07c680e54c77cc8d095926f7e05b28246ee66e3b00af1465", func := "reaper/reaperlaw02.CellsCopy", spec := "cellsCopy", unfollowed := true, recurses := true, apart := false, narrowed := true }
def CellsCopyUptoSaid : Prop := cellsCopyUptoRow.holds Try.pinned (OpenSpec.upto cellsCopySpec)

/-- 'reaperlaw02.CellsSwaps', WHERE WHAT IT READS IS OF BULK AT MOST 1048576: true; the input reads as it did. -/
def cellsSwapsUptoRow : OpenClaim := { program := "yteebmcldmiemnaa", sum := "61345d0b552fc08e07c680e54c77cc8d095926f7e05b28246ee66e3b00af1465", func := "reaper/reaperlaw02.CellsSwaps", spec := "cellsSwaps", unfollowed := true, recurses := true, apart := false, narrowed := true }
def CellsSwapsUptoSaid : Prop := cellsSwapsUptoRow.holds Try.pinned (OpenSpec.upto cellsSwapsSpec)

/-- 'reaperlaw02.CellsCounts', WHERE WHAT IT READS IS OF BULK AT MOST 1048576: true; the input reads as it did. -/
def cellsCountsUptoRow : OpenClaim := { program := "yteebmcldmiemnaa", sum := "61345d0b552fc08e07c680e54c77cc8d095926f7e05b28246ee66e3b00af1465", func := "reaper/reaperlaw02.CellsCounts", spec := "cellsCounts", unfollowed := true, recurses := true, apart := false, narrowed := true }
def CellsCountsUptoSaid : Prop := cellsCountsUptoRow.holds Try.pinned (OpenSpec.upto cellsCountsSpec)

end Rows
end Go.Proofs.Yteebmcldmiemnaa
