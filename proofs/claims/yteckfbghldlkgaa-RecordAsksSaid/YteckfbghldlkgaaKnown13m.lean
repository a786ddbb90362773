/-
  The chapter's example (reaperlaw13.known) is told; and a call on a memory of records where only their number is looked at. Conditions: none.
-/
import Derived.Test.YteckfbghldlkgaaRecA13
import Derived.Test.YteckfbghldlkgaaMCel13
namespace Go.Proofs.Yteckfbghldlkgaa.M2
open Go.RowKit

set_option maxRecDepth 100000 in
set_option maxHeartbeats 1600000 in
theorem known (w : World) : Calls Try.prog 8 #[] w fun e w' => e = .returned (.bool true) ∧ Below w.heap.size w w' := by
  go_enter Try.func8, Try.ntmps8
  go_wp2_with fail
  refine (openIn 2 (by omega) (by omega) w).mono ?_
  rintro e w1 ⟨rfl, m1, b1⟩
  have T : Calls Try.prog 12 #[.pointer (some ⟨w.heap.size, 0, none⟩)] w1 fun e w' => e = .returned (.int .i64 3) ∧ w1 = w' := top1 m1
  have M : Calls Try.prog 17 #[.pointer (some ⟨w.heap.size, 0, none⟩)] w1 fun e w' => e = .returned (.int .i64 0) ∧ w1 = w' := many1 m1
  have HB := Lib.hid b1
  clear b1 m1
  go_wp2_with fail
  refine T.mono ?_
  clear T
  rintro e w' ⟨rfl, rfl⟩
  go_wp2_with fail
  refine (baseIn (k := 1) (by omega) (by omega) w1).mono ?_
  rintro e w' ⟨rfl, rfl⟩
  go_wp2_with fail
  refine M.mono ?_
  clear M
  rintro e w' ⟨rfl, rfl⟩
  go_wp2_with fail
  refine (openOut 0 (by omega) w1).mono ?_
  rintro e w' ⟨rfl, rfl⟩
  go_wp2_with fail
  refine (openOut 65 (by omega) w1).mono ?_
  rintro e w' ⟨rfl, rfl⟩
  go_wp2
  go_ret
  exact ⟨rfl, HB.out⟩

section
variable {w : World} {B p n : Nat} {size st : Int}
theorem manyL (h : MemL w B p size n st) : Calls Try.prog 17 #[.pointer (some ⟨p, 0, none⟩)] w fun e w' => e = .returned (.int .i64 (mn n : Nat)) ∧ w = w' := by
  obtain ⟨zs, rfl, m⟩ := h
  exact many1 m
theorem nthLin (h : MemL w B p size n st) (k : Nat) (hk : k < mn n) : Calls Try.prog 18 #[.pointer (some ⟨p, 0, none⟩), .int .i64 (3 + 5 * (k : Int))] w fun e w' => e = .returned (.tuple #[.int .i64 k, .bool true]) ∧ w = w' := by
  obtain ⟨zs, rfl, m⟩ := h
  exact nthIn m k hk
theorem MemL.keep {w' : World} (h : MemL w B p size n st) (b : Below w.heap.size w w') : MemL w' B p size n st := by
  obtain ⟨zs, rfl, m⟩ := h
  exact ⟨zs, rfl, m.keep b⟩
end

end Go.Proofs.Yteckfbghldlkgaa.M2
