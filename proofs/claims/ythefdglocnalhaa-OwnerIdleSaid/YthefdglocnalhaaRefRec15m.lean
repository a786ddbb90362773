/-
  What the document's own records (package reaperref13) tell: Base, Open, Many, Nth, See; each makes new memory alone. Conditions: at most 1000 cells.
-/
import Derived.Test.YthefdglocnalhaaMemA15
import Derived.Test.YthefdglocnalhaaMRef13
namespace Go.Proofs.Ythefdglocnalhaa.M2
open Go.RowKit

section
variable {w : World} {B : Nat} {u : Value} {size : Int} {zs : List Int} {st : Int}

/-- What holds at each round's head. -/
def RefNthRel (w : World) (B : Nat) (u : Value) (size : Int) (zs : List Int) (st : Int) (T : Nat) (i : Value) (wr : World) : Prop :=
  ∃ j : Nat, j ≤ T ∧ i = .int .i64 j ∧ wr.ownsRow B 2 1 u zs.length (zs.map (Value.int .i64)) ∧ Boxed wr w.heap.size (.int .i64 size) u (.int .i64 st) ∧ Below w.heap.size w wr

end

end Go.Proofs.Ythefdglocnalhaa.M2
