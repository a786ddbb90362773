/-
  No cell of these rows narrows 'for every input' (looked for: loops, veiled, ifaces, maps, wideKeys, modest, calm, conditions, laid).
  DERIVED. THE GIVEN ROWS OF THIS SEAT. 7 by the template 'for every input the law returns true; each argument reads behind the call as it read before'; 0 by the template 'total and deterministic' (their statements: YtephmkekgmpnpaaTotals.lean).
  GIVEN WITH THE SEED: the statements are not yours to turn. If you find one false, say at which input.
  Laid BY PROGRAM, IN A SANDBOX (cutbox-rows.mjs): the forced cells as the released guide's own fill.sh prints them over the translation 34984b42eff6c2aa… (all of the seat's roots in one cut). By AI agents, Wed Nov 11 2026. No macro, syntax, notation, axiom, sorry.
-/
import Derived.Test.YtephmkekgmpnpaaChecked
import GoSem.Claim
import GoSem.ClaimJoined
import GoSem.ClaimMapViews
import Derived.JoinedTies
import Derived.KernelRfl
namespace Go.Proofs.Ytephmkekgmpnpaa
/- THE CELL 'sum', in the pinned program and in every row, IS THE sha256 OF THE DUMP (.gsa) THAT YtephmkekgmpnpaaProg.lean LOADS. Nothing in Lean hashes anything: it is a label: what it is worth is what the hold of that sum in a sandbox is worth. -/
noncomputable def Try.pinned : Pinned := { name := "ytephmkekgmpnpaa", sum := "34984b42eff6c2aaa24a7d2315b52dcab83460feea2f4d7cce05561592183ff5", checked := Try.checked }
namespace Rows
def none {H : Type} : Left H := { results := [], args := [] }

/-- 'reaperlaw09.MatchPairs': WHATEVER THE INPUT: true; the input reads as it did. -/
def matchPairsSpec : ChangeSpec := { name := "matchPairs", fn := fun _ => fun
  | [d1, d2, d3, d4, d5] => { results := [.lit (.bool true)], args := [d1, d2, d3, d4, d5] }
  | _ => none }
def matchPairsRow : OpenClaim := { program := "ytephmkekgmpnpaa", sum := "34984b42eff6c2aaa24a7d2315b52dcab83460feea2f4d7cce05561592183ff5", func := "reaper/reaperlaw09.MatchPairs", spec := "matchPairs", unfollowed := true, recurses := true, apart := false }
def MatchPairsSaid : Prop := matchPairsRow.holds Try.pinned (OpenSpec.ofChange matchPairsSpec)

/-- ITS FALSE NEIGHBOUR: 'it returns false'. Refute it at one input. -/
def matchPairsWrong : ChangeSpec := { name := "matchPairs", fn := fun _ => fun
  | [d1, d2, d3, d4, d5] => { results := [.lit (.bool false)], args := [d1, d2, d3, d4, d5] }
  | _ => none }
def MatchPairsWrongFalsely : Prop := matchPairsRow.holds Try.pinned (OpenSpec.ofChange matchPairsWrong)

/-- 'reaperlaw09.MatchSame': WHATEVER THE INPUT: true; the input reads as it did. -/
def matchSameSpec : ChangeSpec := { name := "matchSame", fn := fun _ => fun
  | [d1, d2, d3, d4, d5] => { results := [.lit (.bool true)], args := [d1, d2, d3, d4, d5] }
  | _ => none }
def matchSameRow : OpenClaim := { program := "ytephmkekgmpnpaa", sum := "34984b42eff6c2aaa24a7d2315b52dcab83460feea2f4d7cce05561592183ff5", func := "reaper/reaperlaw09.MatchSame", spec := "matchSame", unfollowed := true, recurses := true, apart := false }
def MatchSameSaid : Prop := matchSameRow.holds Try.pinned (OpenSpec.ofChange matchSameSpec)

/-- ITS FALSE NEIGHBOUR: 'it returns false'. Refute it at one input. -/
def matchSameWrong : ChangeSpec := { name := "matchSame", fn := fun _ => fun
  | [d1, d2, d3, d4, d5] => { results := [.lit (.bool false)], args := [d1, d2, d3, d4, d5] }
  | _ => none }
def MatchSameWrongFalsely : Prop := matchSameRow.holds Try.pinned (OpenSpec.ofChange matchSameWrong)

/-- 'reaperlaw09.MatchMeets': WHATEVER THE INPUT: true; the input reads as it did. -/
def matchMeetsSpec : ChangeSpec := { name := "matchMeets", fn := fun _ => fun
  | [d1, d2, d3] => { results := [.lit (.bool true)], args := [d1, d2, d3] }
  | _ => none }
def matchMeetsRow : OpenClaim := { program := "ytephmkekgmpnpaa", sum := "34984b42eff6c2aaa24a7d2315b52dcab83460feea2f4d7cce05561592183ff5", func := "reaper/reaperlaw09.MatchMeets", spec := "matchMeets", unfollowed := true, recurses := true, apart := false }
def MatchMeetsSaid : Prop := matchMeetsRow.holds Try.pinned (OpenSpec.ofChange matchMeetsSpec)

/-- ITS FALSE NEIGHBOUR: 'it returns false'. Refute it at one input. -/
def matchMeetsWrong : ChangeSpec := { name := "matchMeets", fn := fun _ => fun
  | [d1, d2, d3] => { results := [.lit (.bool false)], args := [d1, d2, d3] }
  | _ => none }
def MatchMeetsWrongFalsely : Prop := matchMeetsRow.holds Try.pinned (OpenSpec.ofChange matchMeetsWrong)

/-- 'reaperlaw09.MatchNested': WHATEVER THE INPUT: true; the input reads as it did. -/
def matchNestedSpec : ChangeSpec := { name := "matchNested", fn := fun _ => fun
  | [d1, d2, d3] => { results := [.lit (.bool true)], args := [d1, d2, d3] }
  | _ => none }
def matchNestedRow : OpenClaim := { program := "ytephmkekgmpnpaa", sum := "34984b42eff6c2aaa24a7d2315b52dcab83460feea2f4d7cce05561592183ff5", func := "reaper/reaperlaw09.MatchNested", spec := "matchNested", unfollowed := true, recurses := true, apart := false }
def MatchNestedSaid : Prop := matchNestedRow.holds Try.pinned (OpenSpec.ofChange matchNestedSpec)

/-- ITS FALSE NEIGHBOUR: 'it returns false'. Refute it at one input. -/
def matchNestedWrong : ChangeSpec := { name := "matchNested", fn := fun _ => fun
  | [d1, d2, d3] => { results := [.lit (.bool false)], args := [d1, d2, d3] }
  | _ => none }
def MatchNestedWrongFalsely : Prop := matchNestedRow.holds Try.pinned (OpenSpec.ofChange matchNestedWrong)

/-- 'reaperlaw09.MatchNone': WHATEVER THE INPUT: true; the input reads as it did. -/
def matchNoneSpec : ChangeSpec := { name := "matchNone", fn := fun _ => fun
  | [d] => { results := [.lit (.bool true)], args := [d] }
  | _ => none }
def matchNoneRow : OpenClaim := { program := "ytephmkekgmpnpaa", sum := "34984b42eff6c2aaa24a7d2315b52dcab83460feea2f4d7cce05561592183ff5", func := "reaper/reaperlaw09.MatchNone", spec := "matchNone", unfollowed := true, recurses := true, apart := false }
def MatchNoneSaid : Prop := matchNoneRow.holds Try.pinned (OpenSpec.ofChange matchNoneSpec)

/-- ITS FALSE NEIGHBOUR: 'it returns false'. Refute it at one input. -/
def matchNoneWrong : ChangeSpec := { name := "matchNone", fn := fun _ => fun
  | [d] => { results := [.lit (.bool false)], args := [d] }
  | _ => none }
def MatchNoneWrongFalsely : Prop := matchNoneRow.holds Try.pinned (OpenSpec.ofChange matchNoneWrong)

/-- 'reaperlaw09.MatchAll': WHATEVER THE INPUT: true; the input reads as it did. -/
def matchAllSpec : ChangeSpec := { name := "matchAll", fn := fun _ => fun
  | [d1, d2] => { results := [.lit (.bool true)], args := [d1, d2] }
  | _ => none }
def matchAllRow : OpenClaim := { program := "ytephmkekgmpnpaa", sum := "34984b42eff6c2aaa24a7d2315b52dcab83460feea2f4d7cce05561592183ff5", func := "reaper/reaperlaw09.MatchAll", spec := "matchAll", unfollowed := true, recurses := true, apart := false }
def MatchAllSaid : Prop := matchAllRow.holds Try.pinned (OpenSpec.ofChange matchAllSpec)

/-- ITS FALSE NEIGHBOUR: 'it returns false'. Refute it at one input. -/
def matchAllWrong : ChangeSpec := { name := "matchAll", fn := fun _ => fun
  | [d1, d2] => { results := [.lit (.bool false)], args := [d1, d2] }
  | _ => none }
def MatchAllWrongFalsely : Prop := matchAllRow.holds Try.pinned (OpenSpec.ofChange matchAllWrong)

/-- 'reaperlaw09.MatchFront': WHATEVER THE INPUT: true; the input reads as it did. -/
def matchFrontSpec : ChangeSpec := { name := "matchFront", fn := fun _ => fun
  | [d1, d2, d3, d4] => { results := [.lit (.bool true)], args := [d1, d2, d3, d4] }
  | _ => none }
def matchFrontRow : OpenClaim := { program := "ytephmkekgmpnpaa", sum := "34984b42eff6c2aaa24a7d2315b52dcab83460feea2f4d7cce05561592183ff5", func := "reaper/reaperlaw09.MatchFront", spec := "matchFront", unfollowed := true, recurses := true, apart := false }
def MatchFrontSaid : Prop := matchFrontRow.holds Try.pinned (OpenSpec.ofChange matchFrontSpec)

/-- ITS FALSE NEIGHBOUR: 'it returns false'. Refute it at one input. -/
def matchFrontWrong : ChangeSpec := { name := "matchFront", fn := fun _ => fun
  | [d1, d2, d3, d4] => { results := [.lit (.bool false)], args := [d1, d2, d3, d4] }
  | _ => none }
def MatchFrontWrongFalsely : Prop := matchFrontRow.holds Try.pinned (OpenSpec.ofChange matchFrontWrong)

/- THE SECOND FORM. 'bulk': how many values and letters a reading holds, each counted each time it is reached (what is shared counts as often as it is met; a slice's spare places count too). A statement '..UptoSaid' is the law's where the arguments, and the package variables that the reading takes, are together of bulk at most 1048576: NARROWER than '..Said'. Prove '..Said' where nothing that the law and all that it calls make is longer than what came in: it says more and counts as full. Else prove '..UptoSaid'. A law counts once. -/
mutual
def uptoBulk {H : Type} : DataW H → Nat
  | .lit (.string bytes) => bytes.length + 1
  | .lit _ => 1
  | .nil => 1
  | .ptr d => uptoBulk d + 1
  | .slice elems spare => uptoBulkAll elems + uptoBulkAll spare + 1
  | .agg parts => uptoBulkAll parts + 1
  | .iface _ d => uptoBulk d + 1
  | .map entries => uptoBulkEntries entries + 1
  | .held _ => 1
def uptoBulkAll {H : Type} : List (DataW H) → Nat
  | [] => 0
  | d :: r => uptoBulk d + uptoBulkAll r
def uptoBulkEntries {H : Type} : List (Lit × DataW H) → Nat
  | [] => 0
  | x :: r => uptoBulkEntry x + uptoBulkEntries r
def uptoBulkEntry {H : Type} : Lit × DataW H → Nat
  | (.string bytes, d) => bytes.length + uptoBulk d + 1
  | (_, d) => uptoBulk d + 1
 end
def uptoSmall : (H : Type) → List (DataW H) → Bool := fun _ ds => decide (uptoBulkAll ds ≤ 1048576)
def OpenSpec.upto (s : _root_.Go.ChangeSpec) : _root_.Go.OpenSpec := { _root_.Go.OpenSpec.ofChange s with cond := some uptoSmall }

/-- 'reaperlaw09.MatchPairs', WHERE WHAT IT READS IS OF BULK AT MOST 1048576: true; the input reads as it did. -/
def matchPairsUptoRow : OpenClaim := { program := "ytephmkekgmpnpaa", sum := "34984b42eff6c2aaa24a7d2315b52dcab83460feea2f4d7cce05561592183ff5", func := "reaper/reaperlaw09.MatchPairs", spec := "matchPairs", unfollowed := true, recurses := true, apart := false, narrowed := true }
def MatchPairsUptoSaid : Prop := matchPairsUptoRow.holds Try.pinned (OpenSpec.upto matchPairsSpec)

/-- 'reaperlaw09.MatchSame', WHERE WHAT IT READS IS OF BULK AT MOST 1048576: true; the input reads as it did. -/
def matchSameUptoRow : OpenClaim := { program := "ytephmkekgmpnpaa", sum := "34984b42eff6c2aaa24a7d2315b52dcab83460feea2f4d7cce05561592183ff5", func := "reaper/reaperlaw09.MatchSame", spec := "matchSame", unfollowed := true, recurses := true, apart := false, narrowed := true }
def MatchSameUptoSaid : Prop := matchSameUptoRow.holds Try.pinned (OpenSpec.upto matchSameSpec)

/-- 'reaperlaw09.MatchMeets', WHERE WHAT IT READS IS OF BULK AT MOST 1048576: true; the input reads as it did. -/
def matchMeetsUptoRow : OpenClaim := { program := "ytephmkekgmpnpaa", sum := "34984b42eff6c2aaa24a7d2315b52dcab83460feea2f4d7cce05561592183ff5", func := "reaper/reaperlaw09.MatchMeets", spec := "matchMeets", unfollowed := true, recurses := true, apart := false, narrowed := true }
def MatchMeetsUptoSaid : Prop := matchMeetsUptoRow.holds Try.pinned (OpenSpec.upto matchMeetsSpec)

/-- 'reaperlaw09.MatchNested', WHERE WHAT IT READS IS OF BULK AT MOST 1048576: true; the input reads as it did. -/
def matchNestedUptoRow : OpenClaim := { program := "ytephmkekgmpnpaa", sum := "34984b42eff6c2aaa24a7d2315b52dcab83460feea2f4d7cce05561592183ff5", func := "reaper/reaperlaw09.MatchNested", spec := "matchNested", unfollowed := true, recurses := true, apart := false, narrowed := true }
def MatchNestedUptoSaid : Prop := matchNestedUptoRow.holds Try.pinned (OpenSpec.upto matchNestedSpec)

/-- 'reaperlaw09.MatchNone', WHERE WHAT IT READS IS OF BULK AT MOST 1048576: true; the input reads as it did. -/
def matchNoneUptoRow : OpenClaim := { program := "ytephmkekgmpnpaa", sum := "34984b42eff6c2aaa24a7d2315b52dcab83460feea2f4d7cce05561592183ff5", func := "reaper/reaperlaw09.MatchNone", spec := "matchNone", unfollowed := true, recurses := true, apart := false, narrowed := true }
def MatchNoneUptoSaid : Prop := matchNoneUptoRow.holds Try.pinned (OpenSpec.upto matchNoneSpec)

/-- 'reaperlaw09.MatchAll', WHERE WHAT IT READS IS OF BULK AT MOST 1048576: true; the input reads as it did. -/
def matchAllUptoRow : OpenClaim := { program := "ytephmkekgmpnpaa", sum := "34984b42eff6c2aaa24a7d2315b52dcab83460feea2f4d7cce05561592183ff5", func := "reaper/reaperlaw09.MatchAll", spec := "matchAll", unfollowed := true, recurses := true, apart := false, narrowed := true }
def MatchAllUptoSaid : Prop := matchAllUptoRow.holds Try.pinned (OpenSpec.upto matchAllSpec)

/-- 'reaperlaw09.MatchFront', WHERE WHAT IT READS IS OF BULK AT MOST 1048576: true; the input reads as it did. -/
def matchFrontUptoRow : OpenClaim := { program := "ytephmkekgmpnpaa", sum := "34984b42eff6c2aaa24a7d2315b52dcab83460feea2f4d7cce05561592183ff5", func := "reaper/reaperlaw09.MatchFront", spec := "matchFront", unfollowed := true, recurses := true, apart := false, narrowed := true }
def MatchFrontUptoSaid : Prop := matchFrontUptoRow.holds Try.pinned (OpenSpec.upto matchFrontSpec)

end Rows
end Go.Proofs.Ytephmkekgmpnpaa
