/-
  What a thread that asks, and is answered, leaves behind each of its steps, in plain numbers (OwnerTold, OwnerLate, OwnerLock). Conditions: none.
-/
import Derived.Test.YthefdglocnalhaaClmPl15m
namespace Go.Proofs.Ythefdglocnalhaa.M2
open Go.RowKit

section
variable (size i W st : Int)
theorem begunI : bgT ⟨i, 0, 0, 0, 0, 0, 0, 0, 0, 0, 0, 0⟩ W = ⟨i, 1, 0, 1, W, 0, 0, 0, 0, 0, 0, 0⟩ := by simp [bgT, fk, ad01]
theorem s1 (h : Int) (hs : 8 ≤ size) : one size (⟨i, 1, 0, 1, W, 0, 0, 0, 0, 0, 0, 0⟩, [0, h, 0], st) = (⟨i, 2, 3, 1, W, 0, 0, 0, 0, 0, 0, 0⟩, [0, h, 0, 0, 0, 0, 0, 0], st + 1) := by
  have e : rm size [0, h, 0] = true := by simp [rm]; omega
  simp [one, stp, alA, alZ, alC, fk, e]
theorem s2 (h : Int) : one size (⟨i, 2, 3, 1, W, 0, 0, 0, 0, 0, 0, 0⟩, [0, h, 0, 0, 0, 0, 0, 0], st) = (⟨i, 5, 3, 1, W, 0, 0, 0, 0, 0, 0, 0⟩, [0, h, 0, W, 0, 0, 0, 0], st + 1) := by
  simp [one, stp, swb, swp, cn, fk]
theorem s3 (h : Int) : one size (⟨i, 5, 3, 1, W, 0, 0, 0, 0, 0, 0, 0⟩, [0, h, 0, W, 0, 0, 0, 0], st) = (⟨i, 6, 3, 1, W, 0, 0, 0, 0, 0, 0, 0⟩, [0, h, 0, W, 0, 0, 0, 0], st + 1) := by
  simp [one, stp, ad31, ld, cn, fk]
theorem s4 (h a b : Int) : one size (⟨i, 6, 3, 1, W, 0, 0, 0, 0, 0, 0, 0⟩, [0, h, 0, a, 0, 0, 0, b], st) = (⟨i, 15, 3, 1, W, 0, 0, 0, 0, 0, 0, 0⟩, [0, h, 0, a, 2, 0, 0, b], st + 1) := by
  simp [one, stp, ad31, swb, swp, cn, fk]
theorem s5 (h : Int) : one size (⟨i, 15, 3, 1, W, 0, 0, 0, 0, 0, 0, 0⟩, [0, h, 0, W, 2, 0, 0, 0], st) = (⟨i, 7, 3, 1, W, W, 0, 0, 0, 0, 0, 0⟩, [0, h, 0, W, 2, 0, 0, 0], st + 1) := by
  simp [one, stp, ld, cn, fk]
theorem s6 (h : Int) : one size (⟨i, 7, 3, 1, W, W, 0, 0, 0, 0, 0, 0⟩, [0, h, 0, W, 2, 0, 0, 0], st) = (⟨i, 8, 3, 1, W, h, 0, 0, 0, 0, 0, 0⟩, [0, h, 0, W, 2, 0, 0, 0], st + 1) := by
  simp [one, stp, ld, cn, fk]
theorem s7 (h x : Int) : one size (⟨i, 8, 3, 1, W, x, 0, 0, 0, 0, 0, 0⟩, [0, h, 0, W, 2, 0, 0, 0], st) = (⟨i, 9, 3, 1, W, x, 0, 0, 0, 0, 0, 0⟩, [0, h, 0, W, 2, 0, x, 0], st + 1) := by
  simp [one, stp, ad33, sto, cn, fk]
theorem s8 (h : Int) : one size (⟨i, 9, 3, 1, W, h, 0, 0, 0, 0, 0, 0⟩, [0, h, 0, W, 2, 0, h, 0], st) = (⟨i, 10, 3, 1, W, 1, 0, 0, 0, 0, 0, 0⟩, [0, 3, 0, W, 2, 0, h, 0], st + 1) := by
  simp [one, stp, swb, swp, cn, fk]
theorem s9 (h x a : Int) : one size (⟨i, 10, 3, 1, W, a, 0, 0, 0, 0, 0, 0⟩, [0, h, 0, W, 2, 0, x, 0], st) = (⟨i, 11, 3, 1, W, a, 0, 0, 0, 0, 0, 0⟩, [0, h, 0, W, a, 0, x, 0], st + 1) := by
  simp [one, stp, ad31, sto, cn, fk]
theorem s11 (k h x a l : Int) : one size (⟨i, 11, 3, 1, W, l, 0, 0, 0, 0, 0, 0⟩, [k, h, 0, W, a, 0, x, 0], st) = (⟨i, 12, 3, 1, W, W, 0, 0, 0, 0, 0, 0⟩, [k, h, 0, W, a, 0, x, 0], st + 1) := by
  simp [one, stp, ld, cn, fk]
theorem s12n (h x a l : Int) : one size (⟨i, 12, 3, 1, W, l, 0, 0, 0, 0, 0, 0⟩, [9, h, 0, W, a, 0, x, 0], st) = (⟨i, 11, 3, 1, W, 9, 0, 0, 0, 0, 0, 0⟩, [9, h, 0, W, a, 0, x, 0], st + 1) := by
  simp [one, stp, ld, cn, fk]
end

/-- Behind k steps; behind q more, each with a store of 9 to LOCK ahead of it. -/
def tdS (W : Int) : Nat → Th × List Int × Int
  | 0 => (bgT t0 W, [0, 0, 0], 1)
  | k + 1 => one 8 (tdS W k)
def pre0 (s : Th × List Int × Int) : Th × List Int × Int := (s.1, s.2.1.set 0 9, s.2.2 + 1)
def tdQ (W : Int) : Nat → Th × List Int × Int
  | 0 => (⟨0, 11, 3, 1, W, 1, 0, 0, 0, 0, 0, 0⟩, [0, 3, 0, W, 1, 0, 0, 0], 10)
  | q + 1 => one 8 (pre0 (tdQ W q))

theorem tdS9 (W : Int) : tdS W 9 = tdQ W 0 := by
  simp [tdS, tdQ, begun0, s1, s2, s3, s4, s5, s6, s7, s8, s9]
theorem tdI (W : Int) : ∀ k, k < 9 → ad (tdS W k).1.rc 0 = (tdS W k).1.rc ∧ 0 ≤ (tdS W k).2.2 ∧ (tdS W k).2.2 ≤ 30 := by
  intro k hk
  rcases (show k = 0 ∨ k = 1 ∨ k = 2 ∨ k = 3 ∨ k = 4 ∨ k = 5 ∨ k = 6 ∨ k = 7 ∨ k = 8 from by omega) with rfl | rfl | rfl | rfl | rfl | rfl | rfl | rfl | rfl <;> simp [tdS, begun0, s1, s2, s3, s4, s5, s6, s7, s8, s9, ad30, ad00]
theorem tdQI (W : Int) : ∀ q, q < 4 → ad (tdQ W q).1.rc 0 = (tdQ W q).1.rc ∧ (tdQ W q).2.1.length = 8 ∧ 0 ≤ (tdQ W q).2.2 ∧ (tdQ W q).2.2 ≤ 60 := by
  intro q hq
  rcases (show q = 0 ∨ q = 1 ∨ q = 2 ∨ q = 3 from by omega) with rfl | rfl | rfl | rfl <;> simp [tdQ, pre0, s11, s12n, ad30]
theorem tdQE (W : Int) (m : Nat) (hm : m < 3) : ∃ l k st, tdQ W (m * 2) = (⟨0, 11, 3, 1, W, l, 0, 0, 0, 0, 0, 0⟩, [k, 3, 0, W, 1, 0, 0, 0], st) ∧ 0 ≤ st ∧ st ≤ 60 := by
  rcases (show m = 0 ∨ m = 1 ∨ m = 2 from by omega) with rfl | rfl | rfl
  · exact ⟨1, 0, 10, rfl, by omega, by omega⟩
  · exact ⟨9, 9, 14, by simp [tdQ, pre0, s11, s12n,] <;> rfl, by omega, by omega⟩
  · exact ⟨9, 9, 18, by simp [tdQ, pre0, s11, s12n], by omega, by omega⟩

/-- Who is answered goes to Read, and is told. -/
def tdA (W l : Int) : Th := ⟨0, 11, 3, 1, W, l, 0, 0, 0, 0, 0, 0⟩
def tdB (W : Int) : Th := ⟨0, 14, 3, 1, W, 0, 0, 0, 0, 0, 0, 0⟩
def tdC (R : Int) : Th := ⟨0, 0, 3, 1, 0, R, 0, 0, 0, 0, 0, 0⟩
theorem tdB_of (W l R : Int) (hW : 0 < W) : stp 8 (tdA W l) [9, 3, 0, 0, 1, 0, 0, R] = ⟨tdB W, [9, 3, 0, 0, 1, 0, 0, R], 1, 0, 0, false⟩ := by
  have h : ((0 : Int) == W) = false := by simp; omega
  simp [stp, tdA, tdB, ld, cn, fk, h]
theorem tdC_of (W R : Int) : stp 8 (tdB W) [9, 3, 0, 0, 1, 0, 0, R] = ⟨tdC R, [9, 3, 0, 0, 1, 0, 0, R], 1, rK R, rV R, true⟩ := by
  simp [stp, tdB, tdC, ld, cn, fk, ad34]
theorem tdD_of (W R : Int) : bgT (tdC R) W = ⟨0, 2, 3, 2, W, R, 0, 0, 0, 0, 0, 0⟩ := by
  have e : ad 1 1 = 2 := by decide +kernel
  simp [bgT, tdC, fk, e]
theorem tdB_no (W : Int) : bgT (tdB W) W = tdB W := by simp [bgT, tdB]
theorem rK_wd {k v : Int} (h : OpOk (k, v)) : rK (wd k v) = k ∧ rV (wd k v) = v := by
  have hb : 1 ≤ wd k v ∧ wd k v ≤ 1099511627776 := wd_bd h.1.1 h.1.2 h.2.1 h.2.2
  have e : okW (wd k v) = true := decide_eq_true hb
  exact ⟨(if_pos e).trans (kd_wd h.1.1 h.1.2), (if_pos e).trans (vl_wd h.1.1 h.1.2)⟩

end Go.Proofs.Ythefdglocnalhaa.M2
