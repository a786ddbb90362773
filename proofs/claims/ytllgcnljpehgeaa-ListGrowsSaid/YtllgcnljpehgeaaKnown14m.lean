/-
  The chapter's example (reaperlaw13.known) is told; and a call on a memory of records where only their number is looked at. Conditions: none.
-/
import Derived.Test.YtllgcnljpehgeaaRecA14
import Derived.Test.YtllgcnljpehgeaaMCel13
namespace Go.Proofs.Ytllgcnljpehgeaa.M2
open Go.RowKit

section
variable {w : World} {B p n : Nat} {size st : Int}
theorem manyL (h : MemL w B p size n st) : Calls Try.prog 18 #[.pointer (some ⟨p, 0, none⟩)] w fun e w' => e = .returned (.int .i64 (mn n : Nat)) ∧ w = w' := by
  obtain ⟨zs, rfl, m⟩ := h
  exact many1 m
theorem nthLin (h : MemL w B p size n st) (k : Nat) (hk : k < mn n) : Calls Try.prog 65 #[.pointer (some ⟨p, 0, none⟩), .int .i64 (3 + 5 * (k : Int))] w fun e w' => e = .returned (.tuple #[.int .i64 k, .bool true]) ∧ w = w' := by
  obtain ⟨zs, rfl, m⟩ := h
  exact nthIn m k hk
theorem MemL.keep {w' : World} (h : MemL w B p size n st) (b : Below w.heap.size w w') : MemL w' B p size n st := by
  obtain ⟨zs, rfl, m⟩ := h
  exact ⟨zs, rfl, m.keep b⟩
end

end Go.Proofs.Ytllgcnljpehgeaa.M2
