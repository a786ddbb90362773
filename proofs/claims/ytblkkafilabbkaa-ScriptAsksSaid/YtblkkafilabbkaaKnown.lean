/-
  The chapter's example (reaperlaw03.known) holds. Conditions: none.
-/
import Derived.Test.YtblkkafilabbkaaCalls
namespace Go.Proofs.Ytblkkafilabbkaa
open Go.RowKit

theorem reads_new (w : World) (xs : List Int) : Reads .u8 (w.alloc (.cells (xs.map (Value.int .u8)).toArray 5)) (some ⟨w.heap.size, 0, none⟩) xs.length xs := by
  refine ⟨rfl, fun _ => ⟨_, _, rfl, by simp, fun i hi => ?_⟩⟩
  rw [cell_of_row _ _ _ _ _ _ (heap_alloc_new w _)]
  simp [List.getD, hi]

theorem ents_new (w : World) (es : List Ent) (h : es.length ≤ 1000000) : Ents (w.alloc (.cells (flat es).toArray 46)) (some ⟨w.heap.size, 0, none⟩) es.length es := by
  refine ents_own (base := 0) (cap := es.length) ⟨flat_length es, .inr ⟨_, _, _, rfl, Nat.zero_le _, heap_alloc_new w _, Nat.le_refl _, by simp only [maxLen]; omega, by simp [flat_length], ?_⟩⟩
  rw [← flat_length es]
  simp

set_option maxHeartbeats 2000000 in
/-- The chapter's example holds. -/
theorem knownAny (w : World) : Calls Try.prog 9 #[] w fun e w' => e = .returned (.bool true) ∧ Below w.heap.size w w' := by
  go_enter Try.func9, Try.ntmps9
  go_wp2_with fail
  refine (decodeAny _ _ 9 9 _ (reads_new w [1, 0, 1, 7, 2, 0, 0, 0, 9]) (by decide) (by omega) (by omega)).mono ?_
  rintro e w1 ⟨a1, n1, c1, rfl, s1, b1⟩
  have S1 := Lib.hid s1
  have B1 := Lib.hid ((Below.refl _ w).alloc (Nat.le_refl _) _ |>.trans (b1.mono (by simp)))
  have l1 : n1 ≤ 1000000 := by have := s1.1; rw [decL_length] at this; simp at this; omega
  clear s1 b1
  go_wp2_with fail
  refine (sameAny _ _ _ n1 2 c1 2 _ _ (S1.out.keep ((Below.refl _ w1).alloc (Nat.le_refl _) _)) (ents_new w1 [⟨1, 0, 1, 7, 0⟩, ⟨2, 0, 0, 0, 0⟩] (by simp)) l1 (by omega)).mono ?_
  rintro e w2 ⟨rfl, b2⟩
  have B2 := Lib.hid (B1.out.trans (((Below.refl _ w1).alloc (Nat.le_refl _) _ |>.trans (b2.mono (by simp))).mono B1.out.size))
  clear b2
  rw [show decide (decL [1, 0, 1, 7, 2, 0, 0, 0, 9] = [⟨1, 0, 1, 7, 0⟩, ⟨2, 0, 0, 0, 0⟩]) = true by decide]
  go_wp2_with fail
  refine (roundsSome _ 2 3 (by omega) (by omega) (by omega)).mono ?_
  rintro e w3 ⟨a3, n3, c3, rfl, s3, b3⟩
  have B3 := Lib.hid (B2.out.trans (b3.mono B2.out.size))
  obtain rfl : n3 = 6 := by have := s3.1; rw [pickL_length] at this; omega
  clear s3 b3
  go_wp2
  go_ret
  exact ⟨rfl, B3.out⟩

end Go.Proofs.Ytblkkafilabbkaa
