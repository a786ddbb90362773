/-
  What a thread that asks leaves behind nine steps, in plain numbers (OwnerClaims). Conditions: none.
-/
import Derived.Test.YthefdglocnalhaaOwnG15
import Derived.Test.YthefdglocnalhaaThrG15
namespace Go.Proofs.Ythefdglocnalhaa.M2
open Go.RowKit

theorem ad30 : ad 3 0 = 3 := by decide +kernel
theorem ad31 : ad 3 1 = 4 := by decide +kernel
theorem ad33 : ad 3 3 = 6 := by decide +kernel
theorem ad34 : ad 3 4 = 7 := by decide +kernel
theorem ad80 : ad 8 0 = 8 := by decide +kernel
theorem ad81 : ad 8 1 = 9 := by decide +kernel
theorem ad83 : ad 8 3 = 11 := by decide +kernel
theorem ad84 : ad 8 4 = 12 := by decide +kernel
theorem ad00 : ad 0 0 = 0 := by decide +kernel
theorem ad01 : ad 0 1 = 1 := by decide +kernel

/-- One step of a thread, with a store of x to HEAD ahead of it, or none. -/
def one (size : Int) (s : Th × List Int × Int) : Th × List Int × Int := ((stp size s.1 s.2.1).t, (stp size s.1 s.2.1).zs, s.2.2 + (stp size s.1 s.2.1).c)
def pre1 (is : Bool) (x : Int) (s : Th × List Int × Int) : Th × List Int × Int := if is then (s.1, s.2.1.set 1 x, s.2.2 + 1) else s
def clS (W h o : Int) (w : Nat) : Nat → Th × List Int × Int
  | 0 => (bgT t0 W, [0, h, 0], 2)
  | k + 1 => one 13 (pre1 (k == w) o (clS W h o w k))

theorem begun0 (W : Int) : bgT t0 W = ⟨0, 1, 0, 1, W, 0, 0, 0, 0, 0, 0, 0⟩ := by simp [bgT, t0, fk, ad01]

theorem c1 (h W : Int) : one 13 (⟨0, 1, 0, 1, W, 0, 0, 0, 0, 0, 0, 0⟩, [0, h, 0], 2) = (⟨0, 2, 3, 1, W, 0, 0, 0, 0, 0, 0, 0⟩, [0, h, 0, 0, 0, 0, 0, 0], 3) := by
  simp [one, stp, rm, alA, alZ, alC, fk]
theorem c2 (h W st : Int) : one 13 (⟨0, 2, 3, 1, W, 0, 0, 0, 0, 0, 0, 0⟩, [0, h, 0, 0, 0, 0, 0, 0], st) = (⟨0, 5, 3, 1, W, 0, 0, 0, 0, 0, 0, 0⟩, [0, h, 0, W, 0, 0, 0, 0], st + 1) := by
  simp [one, stp, swb, swp, cn, fk]
theorem c3 (h W st : Int) : one 13 (⟨0, 5, 3, 1, W, 0, 0, 0, 0, 0, 0, 0⟩, [0, h, 0, W, 0, 0, 0, 0], st) = (⟨0, 6, 3, 1, W, 0, 0, 0, 0, 0, 0, 0⟩, [0, h, 0, W, 0, 0, 0, 0], st + 1) := by
  simp [one, stp, ad31, ld, cn, fk]
theorem c4 (h W st : Int) : one 13 (⟨0, 6, 3, 1, W, 0, 0, 0, 0, 0, 0, 0⟩, [0, h, 0, W, 0, 0, 0, 0], st) = (⟨0, 15, 3, 1, W, 0, 0, 0, 0, 0, 0, 0⟩, [0, h, 0, W, 2, 0, 0, 0], st + 1) := by
  simp [one, stp, ad31, swb, swp, cn, fk]
theorem c5 (h W st : Int) : one 13 (⟨0, 15, 3, 1, W, 0, 0, 0, 0, 0, 0, 0⟩, [0, h, 0, W, 2, 0, 0, 0], st) = (⟨0, 7, 3, 1, W, W, 0, 0, 0, 0, 0, 0⟩, [0, h, 0, W, 2, 0, 0, 0], st + 1) := by
  simp [one, stp, ld, cn, fk]
theorem c6 (h W st : Int) : one 13 (⟨0, 7, 3, 1, W, W, 0, 0, 0, 0, 0, 0⟩, [0, h, 0, W, 2, 0, 0, 0], st) = (⟨0, 8, 3, 1, W, h, 0, 0, 0, 0, 0, 0⟩, [0, h, 0, W, 2, 0, 0, 0], st + 1) := by
  simp [one, stp, ld, cn, fk]
theorem c7 (h x W st : Int) : one 13 (⟨0, 8, 3, 1, W, x, 0, 0, 0, 0, 0, 0⟩, [0, h, 0, W, 2, 0, 0, 0], st) = (⟨0, 9, 3, 1, W, x, 0, 0, 0, 0, 0, 0⟩, [0, h, 0, W, 2, 0, x, 0], st + 1) := by
  simp [one, stp, ad33, sto, cn, fk]
theorem c8 (h W st : Int) : one 13 (⟨0, 9, 3, 1, W, h, 0, 0, 0, 0, 0, 0⟩, [0, h, 0, W, 2, 0, h, 0], st) = (⟨0, 10, 3, 1, W, 1, 0, 0, 0, 0, 0, 0⟩, [0, 3, 0, W, 2, 0, h, 0], st + 1) := by
  simp [one, stp, swb, swp, cn, fk]
theorem c8n (h x W st : Int) (e : h ≠ x) : one 13 (⟨0, 9, 3, 1, W, x, 0, 0, 0, 0, 0, 0⟩, [0, h, 0, W, 2, 0, x, 0], st) = (⟨0, 10, 3, 1, W, 0, 0, 0, 0, 0, 0, 0⟩, [0, h, 0, W, 2, 0, x, 0], st + 1) := by
  simp [one, stp, swb, swp, cn, fk, e]
theorem c9 (h x a W st : Int) : one 13 (⟨0, 10, 3, 1, W, a, 0, 0, 0, 0, 0, 0⟩, [0, h, 0, W, 2, 0, x, 0], st) = (⟨0, 11, 3, 1, W, a, 0, 0, 0, 0, 0, 0⟩, [0, h, 0, W, a, 0, x, 0], st + 1) := by
  simp [one, stp, ad31, sto, cn, fk]

/-- What is left behind all nine: the head, ACTIVE, NEXT. -/
def clN (h o : Int) (w : Nat) : Int := if w = 8 then o else if (w = 6 ∨ w = 7) ∧ o ≠ h then o else 3
def clA (h o : Int) (w : Nat) : Int := if (w = 6 ∨ w = 7) ∧ o ≠ h then 0 else 1
def clX (h o : Int) (w : Nat) : Int := if w < 6 then o else h

theorem clE (W h o : Int) (w : Nat) (h2 : 2 ≤ w) (h8 : w ≤ 8) : ∃ T st, clS W h o w 9 = (T, [0, clN h o w, 0, W, clA h o w, 0, clX h o w, 0], st) ∧ T.pc = 11 ∧ T.rc = 3 := by
  rcases (show w = 2 ∨ w = 3 ∨ w = 4 ∨ w = 5 ∨ w = 6 ∨ w = 7 ∨ w = 8 from by omega) with rfl | rfl | rfl | rfl | rfl | rfl | rfl
  · simp [clS, begun0, pre1, c1, c2, c3, c4, c5, c6, c7, c8, c9, clN, clA, clX]
  · simp [clS, begun0, pre1, c1, c2, c3, c4, c5, c6, c7, c8, c9, clN, clA, clX]
  · simp [clS, begun0, pre1, c1, c2, c3, c4, c5, c6, c7, c8, c9, clN, clA, clX]
  · simp [clS, begun0, pre1, c1, c2, c3, c4, c5, c6, c7, c8, c9, clN, clA, clX]
  · by_cases e : o = h
    · subst e
      simp [clS, begun0, pre1, c1, c2, c3, c4, c5, c6, c7, c8, c9, clN, clA, clX]
    · simp [clS, begun0, pre1, c1, c2, c3, c4, c5, c6, c7, c8n, c9, clN, clA, clX, e]
  · by_cases e : o = h
    · subst e
      simp [clS, begun0, pre1, c1, c2, c3, c4, c5, c6, c7, c8, c9, clN, clA, clX]
    · simp [clS, begun0, pre1, c1, c2, c3, c4, c5, c6, c7, c8n, c9, clN, clA, clX, e]
  · simp [clS, begun0, pre1, c1, c2, c3, c4, c5, c6, c7, c8, c9, clN, clA, clX]

theorem clST (W h o : Int) (w : Nat) (h2 : 2 ≤ w) (h8 : w ≤ 8) : 2 ≤ (clS W h o w 9).2.2 ∧ (clS W h o w 9).2.2 ≤ 30 := by
  rcases (show w = 2 ∨ w = 3 ∨ w = 4 ∨ w = 5 ∨ w = 6 ∨ w = 7 ∨ w = 8 from by omega) with rfl | rfl | rfl | rfl | rfl | rfl | rfl <;>
  first
  | (simp [clS, begun0, pre1, c1, c2, c3, c4, c5, c6, c7, c8, c9]; done)
  | (by_cases e : o = h
     · subst e
       simp [clS, begun0, pre1, c1, c2, c3, c4, c5, c6, c7, c8, c9]
     · simp [clS, begun0, pre1, c1, c2, c3, c4, c5, c6, c7, c8n, c9, e])

/-- On the way: the record is none yet, or the one at 3; there are three cells or more. -/
theorem clI (W h o : Int) (w : Nat) (h2 : 2 ≤ w) (h8 : w ≤ 8) : ∀ k, k < 9 → ad (clS W h o w k).1.rc 0 = (clS W h o w k).1.rc ∧ 3 ≤ (clS W h o w k).2.1.length ∧ 2 ≤ (clS W h o w k).2.2 ∧ (clS W h o w k).2.2 ≤ 30 := by
  intro k hk
  have hc : k = 0 ∨ k = 1 ∨ k = 2 ∨ k = 3 ∨ k = 4 ∨ k = 5 ∨ k = 6 ∨ k = 7 ∨ k = 8 := by omega
  rcases (show w = 2 ∨ w = 3 ∨ w = 4 ∨ w = 5 ∨ w = 6 ∨ w = 7 ∨ w = 8 from by omega) with rfl | rfl | rfl | rfl | rfl | rfl | rfl <;>
  rcases hc with rfl | rfl | rfl | rfl | rfl | rfl | rfl | rfl | rfl <;>
  first
  | (simp [clS, begun0, pre1, c1, c2, c3, c4, c5, c6, c7, c8, c9, ad30, ad00]; done)
  | (by_cases e : o = h
     · subst e
       simp [clS, begun0, pre1, c1, c2, c3, c4, c5, c6, c7, c8, c9, ad30, ad00]
     · simp [clS, begun0, pre1, c1, c2, c3, c4, c5, c6, c7, c8n, c9, ad30, ad00, e])

end Go.Proofs.Ythefdglocnalhaa.M2
