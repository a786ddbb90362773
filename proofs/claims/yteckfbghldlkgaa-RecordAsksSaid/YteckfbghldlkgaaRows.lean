/-
  No cell of these rows narrows 'for every input' (looked for: loops, veiled, ifaces, maps, wideKeys, modest, calm, conditions, laid).
  DERIVED. THE GIVEN ROWS OF THIS SEAT. 5 by the template 'for every input the law returns true; each argument reads behind the call as it read before'; 0 by the template 'total and deterministic' (their statements: YteckfbghldlkgaaTotals.lean).
  GIVEN WITH THE SEED: the statements are not yours to turn. If you find one false, say at which input.
  Laid BY PROGRAM, IN A SANDBOX (cutbox-rows.mjs): the forced cells as the released guide's own fill.sh prints them over the translation c4dd4800e9771b04… (all of the seat's roots in one cut). By AI agents, Wed Nov 11 2026. No macro, syntax, notation, axiom, sorry.
-/
import Derived.Test.YteckfbghldlkgaaChecked
import GoSem.Claim
import GoSem.ClaimJoined
import GoSem.ClaimMapViews
import Derived.JoinedTies
import Derived.KernelRfl
namespace Go.Proofs.Yteckfbghldlkgaa
/- THE CELL 'sum', in the pinned program and in every row, IS THE sha256 OF THE DUMP (.gsa) THAT YteckfbghldlkgaaProg.lean LOADS. Nothing in Lean hashes anything: it is a label: what it is worth is what the hold of that sum in a sandbox is worth. -/
noncomputable def Try.pinned : Pinned := { name := "yteckfbghldlkgaa", sum := "c4dd4800e9771b0441fd693032682382576b05b5858c472a28b7cc9223e3cd52", checked := Try.checked }
namespace Rows
def none {H : Type} : Left H := { results := [], args := [] }

/-- 'reaperlaw13.RecordAsks': WHATEVER THE INPUT: true; the input reads as it did. -/
def recordAsksSpec : ChangeSpec := { name := "recordAsks", fn := fun _ => fun
  | [d1, d2, d3, d4, d5] => { results := [.lit (.bool true)], args := [d1, d2, d3, d4, d5] }
  | _ => none }
def recordAsksRow : OpenClaim := { program := "yteckfbghldlkgaa", sum := "c4dd4800e9771b0441fd693032682382576b05b5858c472a28b7cc9223e3cd52", func := "reaper/reaperlaw13.RecordAsks", spec := "recordAsks", unfollowed := true, recurses := true, apart := false }
def RecordAsksSaid : Prop := recordAsksRow.holds Try.pinned (OpenSpec.ofChange recordAsksSpec)

/-- ITS FALSE NEIGHBOUR: 'it returns false'. Refute it at one input. -/
def recordAsksWrong : ChangeSpec := { name := "recordAsks", fn := fun _ => fun
  | [d1, d2, d3, d4, d5] => { results := [.lit (.bool false)], args := [d1, d2, d3, d4, d5] }
  | _ => none }
def RecordAsksWrongFalsely : Prop := recordAsksRow.holds Try.pinned (OpenSpec.ofChange recordAsksWrong)

/-- 'reaperlaw13.RecordPlaces': WHATEVER THE INPUT: true; the input reads as it did. -/
def recordPlacesSpec : ChangeSpec := { name := "recordPlaces", fn := fun _ => fun
  | [d1, d2, d3] => { results := [.lit (.bool true)], args := [d1, d2, d3] }
  | _ => none }
def recordPlacesRow : OpenClaim := { program := "yteckfbghldlkgaa", sum := "c4dd4800e9771b0441fd693032682382576b05b5858c472a28b7cc9223e3cd52", func := "reaper/reaperlaw13.RecordPlaces", spec := "recordPlaces", unfollowed := true, recurses := true, apart := false }
def RecordPlacesSaid : Prop := recordPlacesRow.holds Try.pinned (OpenSpec.ofChange recordPlacesSpec)

/-- ITS FALSE NEIGHBOUR: 'it returns false'. Refute it at one input. -/
def recordPlacesWrong : ChangeSpec := { name := "recordPlaces", fn := fun _ => fun
  | [d1, d2, d3] => { results := [.lit (.bool false)], args := [d1, d2, d3] }
  | _ => none }
def RecordPlacesWrongFalsely : Prop := recordPlacesRow.holds Try.pinned (OpenSpec.ofChange recordPlacesWrong)

/-- 'reaperlaw13.RecordTold': WHATEVER THE INPUT: true; the input reads as it did. -/
def recordToldSpec : ChangeSpec := { name := "recordTold", fn := fun _ => fun
  | [d1, d2, d3] => { results := [.lit (.bool true)], args := [d1, d2, d3] }
  | _ => none }
def recordToldRow : OpenClaim := { program := "yteckfbghldlkgaa", sum := "c4dd4800e9771b0441fd693032682382576b05b5858c472a28b7cc9223e3cd52", func := "reaper/reaperlaw13.RecordTold", spec := "recordTold", unfollowed := true, recurses := true, apart := false }
def RecordToldSaid : Prop := recordToldRow.holds Try.pinned (OpenSpec.ofChange recordToldSpec)

/-- ITS FALSE NEIGHBOUR: 'it returns false'. Refute it at one input. -/
def recordToldWrong : ChangeSpec := { name := "recordTold", fn := fun _ => fun
  | [d1, d2, d3] => { results := [.lit (.bool false)], args := [d1, d2, d3] }
  | _ => none }
def RecordToldWrongFalsely : Prop := recordToldRow.holds Try.pinned (OpenSpec.ofChange recordToldWrong)

/-- 'reaperlaw13.RecordFields': WHATEVER THE INPUT: true; the input reads as it did. -/
def recordFieldsSpec : ChangeSpec := { name := "recordFields", fn := fun _ => fun
  | [d1, d2, d3, d4] => { results := [.lit (.bool true)], args := [d1, d2, d3, d4] }
  | _ => none }
def recordFieldsRow : OpenClaim := { program := "yteckfbghldlkgaa", sum := "c4dd4800e9771b0441fd693032682382576b05b5858c472a28b7cc9223e3cd52", func := "reaper/reaperlaw13.RecordFields", spec := "recordFields", unfollowed := true, recurses := true, apart := false }
def RecordFieldsSaid : Prop := recordFieldsRow.holds Try.pinned (OpenSpec.ofChange recordFieldsSpec)

/-- ITS FALSE NEIGHBOUR: 'it returns false'. Refute it at one input. -/
def recordFieldsWrong : ChangeSpec := { name := "recordFields", fn := fun _ => fun
  | [d1, d2, d3, d4] => { results := [.lit (.bool false)], args := [d1, d2, d3, d4] }
  | _ => none }
def RecordFieldsWrongFalsely : Prop := recordFieldsRow.holds Try.pinned (OpenSpec.ofChange recordFieldsWrong)

/-- 'reaperlaw13.RecordOpen': WHATEVER THE INPUT: true; the input reads as it did. -/
def recordOpenSpec : ChangeSpec := { name := "recordOpen", fn := fun _ => fun
  | [d1, d2] => { results := [.lit (.bool true)], args := [d1, d2] }
  | _ => none }
def recordOpenRow : OpenClaim := { program := "yteckfbghldlkgaa", sum := "c4dd4800e9771b0441fd693032682382576b05b5858c472a28b7cc9223e3cd52", func := "reaper/reaperlaw13.RecordOpen", spec := "recordOpen", unfollowed := true, recurses := true, apart := false }
def RecordOpenSaid : Prop := recordOpenRow.holds Try.pinned (OpenSpec.ofChange recordOpenSpec)

/-- ITS FALSE NEIGHBOUR: 'it returns false'. Refute it at one input. -/
def recordOpenWrong : ChangeSpec := { name := "recordOpen", fn := fun _ => fun
  | [d1, d2] => { results := [.lit (.bool false)], args := [d1, d2] }
  | _ => none }
def RecordOpenWrongFalsely : Prop := recordOpenRow.holds Try.pinned (OpenSpec.ofChange recordOpenWrong)

/- THE SECOND FORM. 'bulk': how many values and letters a reading holds, each counted each time it is reached (what is shared counts as often as it is met; a slice's spare places count too). A statement '..UptoSaid' is the law's where the arguments, and the package variables that the reading takes, are together of bulk at most 1048576: NARROWER than '..Said'. Prove '..Said' where nothing that the law and all that it calls make is longer than what came in: it says more and counts as full. Else prove '..UptoSaid'. A law counts once. -/
mutual
def uptoBulk {H : Type} : DataW H → Nat
  | .lit (.string bytes) => bytes.length + 1
  | .lit _ => 1
  | .nil => 1
  | .ptr d => uptoBulk d + 1
  | .slice elems spare => uptoBulkAll elems + uptoBulkAll spare + 1
  | .agg parts => uptoBulkAll parts + 1
  | .iface _ d => uptoBulk d + 1
  | .map entries => uptoBulkEntries entries + 1
  | .held _ => 1
def uptoBulkAll {H : Type} : List (DataW H) → Nat
  | [] => 0
  | d :: r => uptoBulk d + uptoBulkAll r
def uptoBulkEntries {H : Type} : List (Lit × DataW H) → Nat
  | [] => 0
  | x :: r => uptoBulkEntry x + uptoBulkEntries r
def uptoBulkEntry {H : Type} : Lit × DataW H → Nat
  | (.string bytes, d) => bytes.length + uptoBulk d + 1
  | (_, d) => uptoBulk d + 1
 end
def uptoSmall : (H : Type) → List (DataW H) → Bool := fun _ ds => decide (uptoBulkAll ds ≤ 1048576)
def OpenSpec.upto (s : _root_.Go.ChangeSpec) : _root_.Go.OpenSpec := { _root_.Go.OpenSpec.ofChange s with cond := some uptoSmall }

/-- 'reaperlaw13.RecordAsks', WHERE WHAT IT READS IS OF BULK AT MOST 1048576: true; the input reads as it did. -/
def recordAsksUptoRow : OpenClaim := { program := "yteckfbghldlkgaa", sum := "c4dd4800e9771b0441fd693032682382576b05b5858c472a28b7cc9223e3cd52", func := "reaper/reaperlaw13.RecordAsks", spec := "recordAsks", unfollowed := true, recurses := true, apart := false, narrowed := true }
def RecordAsksUptoSaid : Prop := recordAsksUptoRow.holds Try.pinned (OpenSpec.upto recordAsksSpec)

/-- 'reaperlaw13.RecordPlaces', WHERE WHAT IT READS IS OF BULK AT MOST 1048576: true; the input reads as it did. -/
def recordPlacesUptoRow : OpenClaim := { program := "yteckfbghldlkgaa", sum := "c4dd4800e9771b0441fd693032682382576b05b5858c472a28b7cc9223e3cd52", func := "reaper/reaperlaw13.RecordPlaces", spec := "recordPlaces", unfollowed := true, recurses := true, apart := false, narrowed := true }
def RecordPlacesUptoSaid : Prop := recordPlacesUptoRow.holds Try.pinned (OpenSpec.upto recordPlacesSpec)

/-- 'reaperlaw13.RecordTold', WHERE WHAT IT READS IS OF BULK AT MOST 1048576: true; the input reads as it did. -/
def recordToldUptoRow : OpenClaim := { program := "yteckfbghldlkgaa", sum := "c4dd4800e9771b0441fd693032682382576b05b5858c472a28b7cc9223e3cd52", func := "reaper/reaperlaw13.RecordTold", spec := "recordTold", unfollowed := true, recurses := true, apart := false, narrowed := true }
def RecordToldUptoSaid : Prop := recordToldUptoRow.holds Try.pinned (OpenSpec.upto recordToldSpec)

/-- 'reaperlaw13.RecordFields', WHERE WHAT IT READS IS OF BULK AT MOST 1048576: true; the input reads as it did. -/
def recordFieldsUptoRow : OpenClaim := { program := "yteckfbghldlkgaa", sum := "c4dd4800e9771b0441fd693032682382576b05b5858c472a28b7cc9223e3cd52", func := "reaper/reaperlaw13.RecordFields", spec := "recordFields", unfollowed := true, recurses := true, apart := false, narrowed := true }
def RecordFieldsUptoSaid : Prop := recordFieldsUptoRow.holds Try.pinned (OpenSpec.upto recordFieldsSpec)

/-- 'reaperlaw13.RecordOpen', WHERE WHAT IT READS IS OF BULK AT MOST 1048576: true; the input reads as it did. -/
def recordOpenUptoRow : OpenClaim := { program := "yteckfbghldlkgaa", sum := "c4dd4800e9771b0441fd693032682382576b05b5858c472a28b7cc9223e3cd52", func := "reaper/reaperlaw13.RecordOpen", spec := "recordOpen", unfollowed := true, recurses := true, apart := false, narrowed := true }
def RecordOpenUptoSaid : Prop := recordOpenUptoRow.holds Try.pinned (OpenSpec.upto recordOpenSpec)

end Rows
end Go.Proofs.Yteckfbghldlkgaa
