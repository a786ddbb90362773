/-
  Two threads that wait for a lock that is free, in plain numbers (OwnerLock). Conditions: none.
-/
import Derived.Test.YthefdglocnalhaaLatPl15m
namespace Go.Proofs.Ythefdglocnalhaa.M2
open Go.RowKit

section
variable (i A W st : Int)
theorem s12y (h x a l : Int) : one 13 (⟨i, 12, 3, 1, W, l, 0, 0, 0, 0, 0, 0⟩, [0, h, 0, W, a, 0, x, 0], st) = (⟨i, 13, 3, 1, W, 0, 0, 0, 0, 0, 0, 0⟩, [0, h, 0, W, a, 0, x, 0], st + 1) := by
  simp [one, stp, ld, cn, fk]
def lkA (i W : Int) : Th × List Int × Int := (⟨i, 1, 0, 1, W, 0, 0, 0, 0, 0, 0, 0⟩, [0, 0, 0], 1)
theorem lkAI : ∀ k, k < 11 → ad (itS 13 (lkA i W) k).1.rc 0 = (itS 13 (lkA i W) k).1.rc ∧ 0 ≤ (itS 13 (lkA i W) k).2.2 ∧ (itS 13 (lkA i W) k).2.2 ≤ 60 := by
  intro k hk
  rcases (show k = 0 ∨ k = 1 ∨ k = 2 ∨ k = 3 ∨ k = 4 ∨ k = 5 ∨ k = 6 ∨ k = 7 ∨ k = 8 ∨ k = 9 ∨ k = 10 from by omega) with rfl | rfl | rfl | rfl | rfl | rfl | rfl | rfl | rfl | rfl | rfl <;> simp [itS, lkA, s1, s2, s3, s4, s5, s6, s7, s8, s9, s11, ad30, ad00]
theorem lkAE : itS 13 (lkA i W) 11 = (⟨i, 13, 3, 1, W, 0, 0, 0, 0, 0, 0, 0⟩, [0, 3, 0, W, 1, 0, 0, 0], 12) := by
  simp [itS, lkA, s1, s2, s3, s4, s5, s6, s7, s8, s9, s11, s12y]

theorem b1 : one 13 (⟨i, 1, 0, 1, W, 0, 0, 0, 0, 0, 0, 0⟩, [0, 3, 0, A, 1, 0, 0, 0], st) = (⟨i, 2, 8, 1, W, 0, 0, 0, 0, 0, 0, 0⟩, [0, 3, 0, A, 1, 0, 0, 0, 0, 0, 0, 0, 0], st + 1) := by
  have e : rm 13 [0, 3, 0, A, 1, 0, 0, 0] = true := by simp [rm]
  simp [one, stp, alA, alZ, alC, fk, e]
theorem b2 : one 13 (⟨i, 2, 8, 1, W, 0, 0, 0, 0, 0, 0, 0⟩, [0, 3, 0, A, 1, 0, 0, 0, 0, 0, 0, 0, 0], st) = (⟨i, 5, 8, 1, W, 0, 0, 0, 0, 0, 0, 0⟩, [0, 3, 0, A, 1, 0, 0, 0, W, 0, 0, 0, 0], st + 1) := by
  simp [one, stp, swb, swp, cn, fk]
theorem b3 : one 13 (⟨i, 5, 8, 1, W, 0, 0, 0, 0, 0, 0, 0⟩, [0, 3, 0, A, 1, 0, 0, 0, W, 0, 0, 0, 0], st) = (⟨i, 6, 8, 1, W, 0, 0, 0, 0, 0, 0, 0⟩, [0, 3, 0, A, 1, 0, 0, 0, W, 0, 0, 0, 0], st + 1) := by
  simp [one, stp, ad81, ld, cn, fk]
theorem b4 : one 13 (⟨i, 6, 8, 1, W, 0, 0, 0, 0, 0, 0, 0⟩, [0, 3, 0, A, 1, 0, 0, 0, W, 0, 0, 0, 0], st) = (⟨i, 15, 8, 1, W, 0, 0, 0, 0, 0, 0, 0⟩, [0, 3, 0, A, 1, 0, 0, 0, W, 2, 0, 0, 0], st + 1) := by
  simp [one, stp, ad81, swb, swp, cn, fk]
theorem b5 : one 13 (⟨i, 15, 8, 1, W, 0, 0, 0, 0, 0, 0, 0⟩, [0, 3, 0, A, 1, 0, 0, 0, W, 2, 0, 0, 0], st) = (⟨i, 7, 8, 1, W, W, 0, 0, 0, 0, 0, 0⟩, [0, 3, 0, A, 1, 0, 0, 0, W, 2, 0, 0, 0], st + 1) := by
  simp [one, stp, ld, cn, fk]
theorem b6 : one 13 (⟨i, 7, 8, 1, W, W, 0, 0, 0, 0, 0, 0⟩, [0, 3, 0, A, 1, 0, 0, 0, W, 2, 0, 0, 0], st) = (⟨i, 8, 8, 1, W, 3, 0, 0, 0, 0, 0, 0⟩, [0, 3, 0, A, 1, 0, 0, 0, W, 2, 0, 0, 0], st + 1) := by
  simp [one, stp, ld, cn]
theorem b7 : one 13 (⟨i, 8, 8, 1, W, 3, 0, 0, 0, 0, 0, 0⟩, [0, 3, 0, A, 1, 0, 0, 0, W, 2, 0, 0, 0], st) = (⟨i, 9, 8, 1, W, 3, 0, 0, 0, 0, 0, 0⟩, [0, 3, 0, A, 1, 0, 0, 0, W, 2, 0, 3, 0], st + 1) := by
  simp [one, stp, ad83, sto, cn]
theorem b8 : one 13 (⟨i, 9, 8, 1, W, 3, 0, 0, 0, 0, 0, 0⟩, [0, 3, 0, A, 1, 0, 0, 0, W, 2, 0, 3, 0], st) = (⟨i, 10, 8, 1, W, 1, 0, 0, 0, 0, 0, 0⟩, [0, 8, 0, A, 1, 0, 0, 0, W, 2, 0, 3, 0], st + 1) := by
  simp [one, stp, swb, swp, cn, fk]
theorem b9 : one 13 (⟨i, 10, 8, 1, W, 1, 0, 0, 0, 0, 0, 0⟩, [0, 8, 0, A, 1, 0, 0, 0, W, 2, 0, 3, 0], st) = (⟨i, 11, 8, 1, W, 1, 0, 0, 0, 0, 0, 0⟩, [0, 8, 0, A, 1, 0, 0, 0, W, 1, 0, 3, 0], st + 1) := by
  simp [one, stp, ad81, sto, cn]
theorem b11 : one 13 (⟨i, 11, 8, 1, W, 1, 0, 0, 0, 0, 0, 0⟩, [0, 8, 0, A, 1, 0, 0, 0, W, 1, 0, 3, 0], st) = (⟨i, 12, 8, 1, W, W, 0, 0, 0, 0, 0, 0⟩, [0, 8, 0, A, 1, 0, 0, 0, W, 1, 0, 3, 0], st + 1) := by
  simp [one, stp, ld, cn, fk]
theorem b12 : one 13 (⟨i, 12, 8, 1, W, W, 0, 0, 0, 0, 0, 0⟩, [0, 8, 0, A, 1, 0, 0, 0, W, 1, 0, 3, 0], st) = (⟨i, 13, 8, 1, W, 0, 0, 0, 0, 0, 0, 0⟩, [0, 8, 0, A, 1, 0, 0, 0, W, 1, 0, 3, 0], st + 1) := by
  simp [one, stp, ld, cn, fk]
def lkB (i A W : Int) : Th × List Int × Int := (⟨i, 1, 0, 1, W, 0, 0, 0, 0, 0, 0, 0⟩, [0, 3, 0, A, 1, 0, 0, 0], 12)
theorem lkBI : ∀ k, k < 11 → ad (itS 13 (lkB i A W) k).1.rc 0 = (itS 13 (lkB i A W) k).1.rc ∧ 0 ≤ (itS 13 (lkB i A W) k).2.2 ∧ (itS 13 (lkB i A W) k).2.2 ≤ 60 := by
  intro k hk
  rcases (show k = 0 ∨ k = 1 ∨ k = 2 ∨ k = 3 ∨ k = 4 ∨ k = 5 ∨ k = 6 ∨ k = 7 ∨ k = 8 ∨ k = 9 ∨ k = 10 from by omega) with rfl | rfl | rfl | rfl | rfl | rfl | rfl | rfl | rfl | rfl | rfl <;> simp [itS, lkB, b1, b2, b3, b4, b5, b6, b7, b8, b9, b11, ad80, ad00]
theorem lkBE : itS 13 (lkB i A W) 11 = (⟨i, 13, 8, 1, W, 0, 0, 0, 0, 0, 0, 0⟩, [0, 8, 0, A, 1, 0, 0, 0, W, 1, 0, 3, 0], 23) := by
  simp [itS, lkB, b1, b2, b3, b4, b5, b6, b7, b8, b9, b11, b12]

/-- Who finds the lock free takes it; who doesn't goes on waiting. -/
def lkZ (k A W : Int) : List Int := [k, 8, 0, A, 1, 0, 0, 0, W, 1, 0, 3, 0]
theorem tkY (r k : Int) (hk : ad i 1 = k) : stp 13 ⟨i, 13, r, 1, st, 0, 0, 0, 0, 0, 0, 0⟩ (lkZ 0 A W) = ⟨⟨i, 20, r, 1, st, 0, 0, 0, 0, 0, 0, 0⟩, lkZ k A W, 1, 0, 0, false⟩ := by
  simp [stp, lkZ, swb, swp, cn, fk, hk]
theorem tkN (r k : Int) (hk : 0 < k) : stp 13 ⟨i, 13, r, 1, st, 0, 0, 0, 0, 0, 0, 0⟩ (lkZ k A W) = ⟨⟨i, 11, r, 1, st, 0, 0, 0, 0, 0, 0, 0⟩, lkZ k A W, 1, 0, 0, false⟩ := by
  have h : ¬ k = 0 := by omega
  simp [stp, lkZ, swb, swp, cn, fk, h]
end

end Go.Proofs.Ythefdglocnalhaa.M2
