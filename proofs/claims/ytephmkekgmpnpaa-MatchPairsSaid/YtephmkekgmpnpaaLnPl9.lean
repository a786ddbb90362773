/-
  A line of pushes that wait, in plain lists: what becomes of it by each operation, which push a pop meets, and codes. Conditions: none; no Go function is looked at here.
-/
import Derived.Test.YtephmkekgmpnpaaProg
namespace Go.Proofs.Ytephmkekgmpnpaa

/-- How many of the items that were there are left, and the places of the pushes that wait, behind an operation. -/
def lineStep (most : Int) (s : Int × List Int) (k kind : Int) : Int × List Int :=
  if kind = 1 then (if s.1 + s.2.length < most then (s.1, s.2 ++ [k]) else s)
  else if kind = 2 then (if s.2 = [] then (if 0 < s.1 then (s.1 - 1, []) else s) else (s.1, s.2.dropLast))
  else s
/-- And behind the first ones of many, of these kinds. -/
def lineAt (most there : Int) (ks : Nat → Int) : Nat → Int × List Int
  | 0 => (there, [])
  | k + 1 => lineStep most (lineAt most there ks k) k (ks k)
/-- The code that one is told. -/
def lineC (most : Int) (s : Int × List Int) (kind : Int) : Int :=
  if kind = 1 then (if s.1 + s.2.length < most then 1 else 3)
  else if kind = 2 then (if s.2 = [] then (if 0 < s.1 then 2 else 4) else 2)
  else 5
/-- The push that one meets. -/
def lineP (s : Int × List Int) (kind : Int) : Int := if kind = 2 then s.2.getLastD (-1) else -1

/-- The codes of the first n. -/
def codesL (most there : Int) (ks : Nat → Int) (n : Nat) : List Int := (List.range n).map fun k => lineC most (lineAt most there ks k) (ks k)
/-- Whom the first n meet. -/
def pairsL (most there : Int) (ks : Nat → Int) (n : Nat) : List Int := (List.range n).map fun k => lineP (lineAt most there ks k) (ks k)

section
variable {most there : Int} {ks : Nat → Int} {n k : Nat}
theorem codesL_length : (codesL most there ks n).length = n := by simp [codesL]
theorem pairsL_length : (pairsL most there ks n).length = n := by simp [pairsL]
theorem codesL_snoc : codesL most there ks (n + 1) = codesL most there ks n ++ [lineC most (lineAt most there ks n) (ks n)] := by simp [codesL, List.range_succ]
theorem pairsL_snoc : pairsL most there ks (n + 1) = pairsL most there ks n ++ [lineP (lineAt most there ks n) (ks n)] := by simp [pairsL, List.range_succ]
theorem codesL_getD (h : k < n) : (codesL most there ks n).getD k 0 = lineC most (lineAt most there ks k) (ks k) := by simp [codesL, List.getD, h]
theorem pairsL_getD (h : k < n) : (pairsL most there ks n).getD k 0 = lineP (lineAt most there ks k) (ks k) := by simp [pairsL, List.getD, h]

/-- What holds of a line. -/
structure LineOk (most there : Int) (k : Nat) (s : Int × List Int) : Prop where
  low : 0 ≤ s.1
  high : s.1 ≤ there
  room : s.1 + s.2.length ≤ most
  places : ∀ j ∈ s.2, 0 ≤ j ∧ j < k

theorem lineStep_ok {s : Int × List Int} (h : LineOk most there k s) (kind : Int) : LineOk most there (k + 1) (lineStep most s k kind) := by
  obtain ⟨h1, h2, h3, h4⟩ := h
  have up : ∀ j ∈ s.2, 0 ≤ j ∧ j < ((k + 1 : Nat) : Int) := fun j hj => by have := h4 j hj; omega
  unfold lineStep
  split
  · split
    · refine ⟨h1, h2, by simp; omega, fun j hj => ?_⟩
      simp only [List.mem_append, List.mem_singleton] at hj
      rcases hj with hj | rfl
      · exact up j hj
      · omega
    · exact ⟨h1, h2, h3, up⟩
  · split
    · split
      · split
        · refine ⟨by omega, by omega, ?_, fun j hj => by simp at hj⟩
          simp; omega
        · exact ⟨h1, h2, h3, up⟩
      · refine ⟨h1, h2, ?_, fun j hj => up j (List.dropLast_subset _ hj)⟩
        simp only [List.length_dropLast]; omega
    · exact ⟨h1, h2, h3, up⟩
theorem lineAt_ok (h0 : 0 ≤ there) (h1 : there ≤ most) (ks : Nat → Int) : ∀ k, LineOk most there k (lineAt most there ks k)
  | 0 => ⟨h0, Int.le_refl _, by simpa [lineAt] using h1, fun j hj => by simp [lineAt] at hj⟩
  | k + 1 => by
    have h := lineStep_ok (lineAt_ok h0 h1 ks k) (ks k)
    simpa [lineAt] using h

/-- A line at a stack without room has nothing. -/
theorem lineAt_none (ks : Nat → Int) (k : Nat) : lineAt 0 0 ks k = (0, []) := by
  have h := lineAt_ok (Int.le_refl 0) (Int.le_refl 0) ks k
  obtain ⟨h1, h2, h3, _⟩ := h
  have e1 : (lineAt 0 0 ks k).1 = 0 := by omega
  have e2 : (lineAt 0 0 ks k).2 = [] := List.eq_nil_of_length_eq_zero (by omega)
  exact Prod.ext e1 e2

theorem lineP_in {s : Int × List Int} (h : LineOk most there k s) (kind : Int) : -1 ≤ lineP s kind ∧ lineP s kind < k := by
  unfold lineP
  split
  · rcases List.eq_nil_or_concat s.2 with e | ⟨l, x, e⟩
    · rw [e]; simp; omega
    · have := h.places x (by rw [e]; simp)
      rw [e, List.concat_eq_append, List.getLastD_concat]; omega
  · omega
theorem lineC_in (most : Int) (s : Int × List Int) (kind : Int) : 0 ≤ lineC most s kind ∧ lineC most s kind ≤ 255 := by
  unfold lineC
  repeat' split
  all_goals omega
end

end Go.Proofs.Ytephmkekgmpnpaa
