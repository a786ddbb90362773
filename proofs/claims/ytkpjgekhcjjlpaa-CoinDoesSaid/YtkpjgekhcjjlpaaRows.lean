/-
  No cell of these rows narrows 'for every input' (looked for: loops, veiled, ifaces, maps, wideKeys, modest, calm, conditions, laid).
  DERIVED. THE GIVEN ROWS OF THIS SEAT. 6 by the template 'for every input the law returns true; each argument reads behind the call as it read before'; 0 by the template 'total and deterministic' (their statements: YtkpjgekhcjjlpaaTotals.lean).
  GIVEN WITH THE SEED: the statements are not yours to turn. If you find one false, say at which input.
  Laid BY PROGRAM, IN A SANDBOX (cutbox-rows.mjs): the forced cells as the released guide's own fill.sh prints them over the translation 66caebe9171c1a4b… (all of the seat's roots in one cut). By AI agents, Wed Nov 11 2026. No macro, syntax, notation, axiom, sorry.
-/
import Derived.Test.YtkpjgekhcjjlpaaChecked
import GoSem.Claim
import GoSem.ClaimJoined
import GoSem.ClaimMapViews
import Derived.JoinedTies
import Derived.KernelRfl
namespace Go.Proofs.Ytkpjgekhcjjlpaa
/- THE CELL 'sum', in the pinned program and in every row, IS THE sha256 OF THE DUMP (.gsa) THAT YtkpjgekhcjjlpaaProg.lean LOADS. Nothing in Lean hashes anything: it is a label: what it is worth is what the hold of that sum in a sandbox is worth. -/
noncomputable def Try.pinned : Pinned := { name := "ytkpjgekhcjjlpaa", sum := "66caebe9171c1a4b67e9ba2b1e402584584742ff309f7c0f85d19941bc69e587", checked := Try.checked }
namespace Rows
def none {H : Type} : Left H := { results := [], args := [] }

/-- 'reaperlaw06.CoinDoes': WHATEVER THE INPUT: true; the input reads as it did. -/
def coinDoesSpec : ChangeSpec := { name := "coinDoes", fn := fun _ => fun
  | [d] => { results := [.lit (.bool true)], args := [d] }
  | _ => none }
def coinDoesRow : OpenClaim := { program := "ytkpjgekhcjjlpaa", sum := "66caebe9171c1a4b67e9ba2b1e402584584742ff309f7c0f85d19941bc69e587", func := "reaper/reaperlaw06.CoinDoes", spec := "coinDoes", apart := false }
def CoinDoesSaid : Prop := coinDoesRow.holds Try.pinned (OpenSpec.ofChange coinDoesSpec)

/-- ITS FALSE NEIGHBOUR: 'it returns false'. Refute it at one input. -/
def coinDoesWrong : ChangeSpec := { name := "coinDoes", fn := fun _ => fun
  | [d] => { results := [.lit (.bool false)], args := [d] }
  | _ => none }
def CoinDoesWrongFalsely : Prop := coinDoesRow.holds Try.pinned (OpenSpec.ofChange coinDoesWrong)

/-- 'reaperlaw06.CoinBits': WHATEVER THE INPUT: true; the input reads as it did. -/
def coinBitsSpec : ChangeSpec := { name := "coinBits", fn := fun _ => fun
  | [d] => { results := [.lit (.bool true)], args := [d] }
  | _ => none }
def coinBitsRow : OpenClaim := { program := "ytkpjgekhcjjlpaa", sum := "66caebe9171c1a4b67e9ba2b1e402584584742ff309f7c0f85d19941bc69e587", func := "reaper/reaperlaw06.CoinBits", spec := "coinBits", apart := false }
def CoinBitsSaid : Prop := coinBitsRow.holds Try.pinned (OpenSpec.ofChange coinBitsSpec)

/-- ITS FALSE NEIGHBOUR: 'it returns false'. Refute it at one input. -/
def coinBitsWrong : ChangeSpec := { name := "coinBits", fn := fun _ => fun
  | [d] => { results := [.lit (.bool false)], args := [d] }
  | _ => none }
def CoinBitsWrongFalsely : Prop := coinBitsRow.holds Try.pinned (OpenSpec.ofChange coinBitsWrong)

/-- 'reaperlaw06.CoinHeight': WHATEVER THE INPUT: true; the input reads as it did. -/
def coinHeightSpec : ChangeSpec := { name := "coinHeight", fn := fun _ => fun
  | [d1, d2] => { results := [.lit (.bool true)], args := [d1, d2] }
  | _ => none }
def coinHeightRow : OpenClaim := { program := "ytkpjgekhcjjlpaa", sum := "66caebe9171c1a4b67e9ba2b1e402584584742ff309f7c0f85d19941bc69e587", func := "reaper/reaperlaw06.CoinHeight", spec := "coinHeight", apart := false }
def CoinHeightSaid : Prop := coinHeightRow.holds Try.pinned (OpenSpec.ofChange coinHeightSpec)

/-- ITS FALSE NEIGHBOUR: 'it returns false'. Refute it at one input. -/
def coinHeightWrong : ChangeSpec := { name := "coinHeight", fn := fun _ => fun
  | [d1, d2] => { results := [.lit (.bool false)], args := [d1, d2] }
  | _ => none }
def CoinHeightWrongFalsely : Prop := coinHeightRow.holds Try.pinned (OpenSpec.ofChange coinHeightWrong)

/-- 'reaperlaw06.CoinMost': WHATEVER THE INPUT: true; the input reads as it did. -/
def coinMostSpec : ChangeSpec := { name := "coinMost", fn := fun _ => fun
  | [d1, d2] => { results := [.lit (.bool true)], args := [d1, d2] }
  | _ => none }
def coinMostRow : OpenClaim := { program := "ytkpjgekhcjjlpaa", sum := "66caebe9171c1a4b67e9ba2b1e402584584742ff309f7c0f85d19941bc69e587", func := "reaper/reaperlaw06.CoinMost", spec := "coinMost", apart := false }
def CoinMostSaid : Prop := coinMostRow.holds Try.pinned (OpenSpec.ofChange coinMostSpec)

/-- ITS FALSE NEIGHBOUR: 'it returns false'. Refute it at one input. -/
def coinMostWrong : ChangeSpec := { name := "coinMost", fn := fun _ => fun
  | [d1, d2] => { results := [.lit (.bool false)], args := [d1, d2] }
  | _ => none }
def CoinMostWrongFalsely : Prop := coinMostRow.holds Try.pinned (OpenSpec.ofChange coinMostWrong)

/-- 'reaperlaw06.CoinParts': WHATEVER THE INPUT: true; the input reads as it did. -/
def coinPartsSpec : ChangeSpec := { name := "coinParts", fn := fun _ => fun
  | [d1, d2, d3] => { results := [.lit (.bool true)], args := [d1, d2, d3] }
  | _ => none }
def coinPartsRow : OpenClaim := { program := "ytkpjgekhcjjlpaa", sum := "66caebe9171c1a4b67e9ba2b1e402584584742ff309f7c0f85d19941bc69e587", func := "reaper/reaperlaw06.CoinParts", spec := "coinParts", apart := false }
def CoinPartsSaid : Prop := coinPartsRow.holds Try.pinned (OpenSpec.ofChange coinPartsSpec)

/-- ITS FALSE NEIGHBOUR: 'it returns false'. Refute it at one input. -/
def coinPartsWrong : ChangeSpec := { name := "coinParts", fn := fun _ => fun
  | [d1, d2, d3] => { results := [.lit (.bool false)], args := [d1, d2, d3] }
  | _ => none }
def CoinPartsWrongFalsely : Prop := coinPartsRow.holds Try.pinned (OpenSpec.ofChange coinPartsWrong)

/-- 'reaperlaw06.CoinUses': WHATEVER THE INPUT: true; the input reads as it did. -/
def coinUsesSpec : ChangeSpec := { name := "coinUses", fn := fun _ => fun
  | [d] => { results := [.lit (.bool true)], args := [d] }
  | _ => none }
def coinUsesRow : OpenClaim := { program := "ytkpjgekhcjjlpaa", sum := "66caebe9171c1a4b67e9ba2b1e402584584742ff309f7c0f85d19941bc69e587", func := "reaper/reaperlaw06.CoinUses", spec := "coinUses", apart := false }
def CoinUsesSaid : Prop := coinUsesRow.holds Try.pinned (OpenSpec.ofChange coinUsesSpec)

/-- ITS FALSE NEIGHBOUR: 'it returns false'. Refute it at one input. -/
def coinUsesWrong : ChangeSpec := { name := "coinUses", fn := fun _ => fun
  | [d] => { results := [.lit (.bool false)], args := [d] }
  | _ => none }
def CoinUsesWrongFalsely : Prop := coinUsesRow.holds Try.pinned (OpenSpec.ofChange coinUsesWrong)

/- THE SECOND FORM. 'bulk': how many values and letters a reading holds, each counted each time it is reached (what is shared counts as often as it is met; a slice's spare places count too). A statement '..UptoSaid' is the law's where the arguments, and the package variables that the reading takes, are together of bulk at most 1048576: NARROWER than '..Said'. Prove '..Said' where nothing that the law and all that it calls make is longer than what came in: it says more and counts as full. Else prove '..UptoSaid'. A law counts once. -/
mutual
def uptoBulk {H : Type} : DataW H → Nat
  | .lit (.string bytes) => bytes.length + 1
  | .lit _ => 1
  | .nil => 1
  | .ptr d => uptoBulk d + 1
  | .slice elems spare => uptoBulkAll elems + uptoBulkAll spare + 1
  | .agg parts => uptoBulkAll parts + 1
  | .iface _ d => uptoBulk d + 1
  | .map entries => uptoBulkEntries entries + 1
  | .held _ => 1
def uptoBulkAll {H : Type} : List (DataW H) → Nat
  | [] => 0
  | d :: r => uptoBulk d + uptoBulkAll r
def uptoBulkEntries {H : Type} : List (Lit × DataW H) → Nat
  | [] => 0
  | x :: r => uptoBulkEntry x + uptoBulkEntries r
def uptoBulkEntry {H : Type} : Lit × DataW H → Nat
  | (.string bytes, d) => bytes.length + uptoBulk d + 1
  | (_, d) => uptoBulk d + 1
 end
def uptoSmall : (H : Type) → List (DataW H) → Bool := fun _ ds => decide (uptoBulkAll ds ≤ 1048576)
def OpenSpec.upto (s : _root_.Go.ChangeSpec) : _root_.Go.OpenSpec := { _root_.Go.OpenSpec.ofChange s with cond := some uptoSmall }

/-- 'reaperlaw06.CoinDoes', WHERE WHAT IT READS IS OF BULK AT MOST 1048576: true; the input reads as it did. -/
def coinDoesUptoRow : OpenClaim := { program := "ytkpjgekhcjjlpaa", sum := "66caebe9171c1a4b67e9ba2b1e402584584742ff309f7c0f85d19941bc69e587", func := "reaper/reaperlaw06.CoinDoes", spec := "coinDoes", apart := false, narrowed := true }
def CoinDoesUptoSaid : Prop := coinDoesUptoRow.holds Try.pinned (OpenSpec.upto coinDoesSpec)

/-- 'reaperlaw06.CoinBits', WHERE WHAT IT READS IS OF BULK AT MOST 1048576: true; the input reads as it did. -/
def coinBitsUptoRow : OpenClaim := { program := "ytkpjgekhcjjlpaa", sum := "66caebe9171c1a4b67e9ba2b1e402584584742ff309f7c0f85d19941bc69e587", func := "reaper/reaperlaw06.CoinBits", spec := "coinBits", apart := false, narrowed := true }
def CoinBitsUptoSaid : Prop := coinBitsUptoRow.holds Try.pinned (OpenSpec.upto coinBitsSpec)

/-- 'reaperlaw06.CoinHeight', WHERE WHAT IT READS IS OF BULK AT MOST 1048576: true; the input reads as it did. -/
def coinHeightUptoRow : OpenClaim := { program := "ytkpjgekhcjjlpaa", sum := "66caebe9171c1a4b67e9ba2b1e402584584742ff309f7c0f85d19941bc69e587", func := "reaper/reaperlaw06.CoinHeight", spec := "coinHeight", apart := false, narrowed := true }
def CoinHeightUptoSaid : Prop := coinHeightUptoRow.holds Try.pinned (OpenSpec.upto coinHeightSpec)

/-- 'reaperlaw06.CoinMost', WHERE WHAT IT READS IS OF BULK AT MOST 1048576: true; the input reads as it did. -/
def coinMostUptoRow : OpenClaim := { program := "ytkpjgekhcjjlpaa", sum := "66caebe9171c1a4b67e9ba2b1e402584584742ff309f7c0f85d19941bc69e587", func := "reaper/reaperlaw06.CoinMost", spec := "coinMost", apart := false, narrowed := true }
def CoinMostUptoSaid : Prop := coinMostUptoRow.holds Try.pinned (OpenSpec.upto coinMostSpec)

/-- 'reaperlaw06.CoinParts', WHERE WHAT IT READS IS OF BULK AT MOST 1048576: true; the input reads as it did. -/
def coinPartsUptoRow : OpenClaim := { program := "ytkpjgekhcjjlpaa", sum := "66caebe9171c1a4b67e9ba2b1e402584584742ff309f7c0f85d19941bc69e587", func := "reaper/reaperlaw06.CoinParts", spec := "coinParts", apart := false, narrowed := true }
def CoinPartsUptoSaid : Prop := coinPartsUptoRow.holds Try.pinned (OpenSpec.upto coinPartsSpec)

/-- 'reaperlaw06.CoinUses', WHERE WHAT IT READS IS OF BULK AT MOST 1048576: true; the input reads as it did. -/
def coinUsesUptoRow : OpenClaim := { program := "ytkpjgekhcjjlpaa", sum := "66caebe9171c1a4b67e9ba2b1e402584584742ff309f7c0f85d19941bc69e587", func := "reaper/reaperlaw06.CoinUses", spec := "coinUses", apart := false, narrowed := true }
def CoinUsesUptoSaid : Prop := coinUsesUptoRow.holds Try.pinned (OpenSpec.upto coinUsesSpec)

end Rows
end Go.Proofs.Ytkpjgekhcjjlpaa
