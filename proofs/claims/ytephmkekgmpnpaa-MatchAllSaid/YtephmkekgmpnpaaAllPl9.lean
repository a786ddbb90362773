/-
  As many pushes and then as many pops: whom they meet, in plain lists. Conditions: none; no Go function is looked at here.
-/
import Derived.Test.YtephmkekgmpnpaaKnow9
namespace Go.Proofs.Ytephmkekgmpnpaa

/-- As many pushes and then as many pops. -/
def allOps (K : Nat) : List (Int × Int) := (List.range K).map (fun j : Nat => ((1 : Int), (j : Int))) ++ List.replicate K (2, 0)
theorem allOps_length (K : Nat) : (allOps K).length = K + K := by simp [allOps]
theorem allOps_push {K j : Nat} (h : j < K) : (allOps K).getD j (0, 0) = (1, (j : Int)) := by
  unfold allOps
  simp [List.getD, List.getElem?_append_left, h]
theorem allOps_pop {K j : Nat} (h : j < K) : (allOps K).getD (K + j) (0, 0) = (2, 0) := by
  unfold allOps
  simp [List.getD, List.getElem?_append_right, h]

/-- The first places. -/
def firsts (j : Nat) : List Int := (List.range j).map (fun i : Nat => (i : Int))
theorem firsts_length (j : Nat) : (firsts j).length = j := by simp [firsts]
theorem firsts_succ (j : Nat) : firsts (j + 1) = firsts j ++ [(j : Int)] := by simp [firsts, List.range_succ]
theorem firsts_ne (j : Nat) : firsts (j + 1) ≠ [] := by rw [firsts_succ]; simp

section
variable {h : Int} {K : Nat}
theorem all_pushes (j : Nat) (hj : j ≤ K) : lineAt (h + K) h (kindsOf (allOps K)) j = (h, firsts j) := by
  induction j with
  | zero => simp [lineAt, firsts]
  | succ j ih =>
    have hk : kindsOf (allOps K) j = 1 := by unfold kindsOf; rw [allOps_push (by omega)]
    have hr : h + ((firsts j).length : Int) < h + K := by rw [firsts_length]; omega
    simp only [lineAt, ih (by omega), lineStep, hk, if_true, if_pos hr, firsts_succ]
theorem all_pops (j : Nat) (hj : j ≤ K) : lineAt (h + K) h (kindsOf (allOps K)) (K + j) = (h, firsts (K - j)) := by
  induction j with
  | zero => exact all_pushes K (Nat.le_refl _)
  | succ j ih =>
    have hk : kindsOf (allOps K) (K + j) = 2 := by unfold kindsOf; rw [allOps_pop (by omega)]
    obtain ⟨i, hi⟩ : ∃ i, K - j = i + 1 := ⟨K - j - 1, by omega⟩
    have hi2 : K - (j + 1) = i := by omega
    rw [show K + (j + 1) = (K + j) + 1 by omega]
    simp only [lineAt, ih (by omega), lineStep, hk, hi, hi2, if_neg (firsts_ne i), if_neg (show ¬ (2 : Int) = 1 by omega), if_true]
    rw [firsts_succ, List.dropLast_concat]

theorem all_pair_push {j : Nat} (hj : j < K) : (pairsL (h + K) h (kindsOf (allOps K)) (K + K)).getD j 0 = -1 := by
  rw [pairsL_getD (by omega)]
  have hk : kindsOf (allOps K) j = 1 := by unfold kindsOf; rw [allOps_push hj]
  simp [lineP, hk]
theorem all_pair_pop {j : Nat} (hj : j < K) : (pairsL (h + K) h (kindsOf (allOps K)) (K + K)).getD (K + j) 0 = (K : Int) - 1 - j := by
  rw [pairsL_getD (by omega), all_pops j (by omega)]
  have hk : kindsOf (allOps K) (K + j) = 2 := by unfold kindsOf; rw [allOps_pop hj]
  obtain ⟨i, hi⟩ : ∃ i, K - j = i + 1 := ⟨K - j - 1, by omega⟩
  simp only [lineP, hk, if_true, hi, firsts_succ, List.getLastD_concat]
  omega

theorem metN_front (xs : List Int) : ∀ k, k ≤ xs.length → (∀ i, i < k → xs.getD i 0 = -1) → metN (xs.take k) = 0
  | 0, _, _ => by simp [metN]
  | k + 1, hk, hx => by
    rw [metN_take xs k (by omega), metN_front xs k (by omega) (fun i hi => hx i (by omega)), if_pos (hx k (by omega))]
    omega
theorem metN_rest (xs : List Int) (K : Nat) : ∀ k, K + k ≤ xs.length → metN (xs.take K) = 0 → (∀ i, i < k → xs.getD (K + i) 0 ≠ -1) → metN (xs.take (K + k)) = k
  | 0, _, h, _ => by simpa using h
  | k + 1, hk, h, hx => by
    rw [show K + (k + 1) = (K + k) + 1 by omega, metN_take xs (K + k) (by omega), metN_rest xs K k (by omega) h (fun i hi => hx i (by omega)), if_neg (hx k (by omega))]
    omega
theorem all_met : metN (pairsL (h + K) h (kindsOf (allOps K)) (K + K)) = K := by
  have hl : (pairsL (h + K) h (kindsOf (allOps K)) (K + K)).length = K + K := pairsL_length
  have h1 := metN_front (pairsL (h + K) h (kindsOf (allOps K)) (K + K)) K (by omega) (fun i hi => all_pair_push hi)
  have h2 := metN_rest (pairsL (h + K) h (kindsOf (allOps K)) (K + K)) K K (by omega) h1 (fun i hi => by rw [all_pair_pop hi]; omega)
  rwa [List.take_of_length_le (by omega)] at h2

/-- Without room nobody waits. -/
theorem full_line {m : Int} {ks : Nat → Int} (hk : ∀ k, ks k = 1 → True) : ∀ k, k ≤ K → (∀ i, i < k → ks i = 1) → lineAt m m ks k = (m, [])
  | 0, _, _ => rfl
  | k + 1, hK, h1 => by
    have ih := full_line (m := m) hk k (by omega) (fun i hi => h1 i (by omega))
    simp only [lineAt, ih, lineStep, h1 k (by omega), if_true]
    rw [if_neg (by simp)]
theorem empty_line {m t : Int} {ks : Nat → Int} {a : Nat} (h0 : (lineAt m t ks a).2 = []) : ∀ k, (∀ i, i < k → ks (a + i) = 2) → (lineAt m t ks (a + k)).2 = []
  | 0, _ => h0
  | k + 1, h2 => by
    have ih := empty_line h0 k (fun i hi => h2 i (by omega))
    rw [show a + (k + 1) = (a + k) + 1 by omega]
    simp only [lineAt, lineStep, h2 k (by omega), if_neg (show ¬ (2 : Int) = 1 by omega), if_true, if_pos ih]
    split
    · rfl
    · exact ih
theorem all_none : metN (pairsL h h (kindsOf (allOps K)) (K + K)) = 0 := by
  have hl : (pairsL h h (kindsOf (allOps K)) (K + K)).length = K + K := pairsL_length
  have e1 : ∀ j, j ≤ K → (lineAt h h (kindsOf (allOps K)) j).2 = [] := fun j hj => by
    rw [full_line (K := K) (fun _ _ => trivial) j hj (fun i hi => by unfold kindsOf; rw [allOps_push (by omega)])]
  have e2 : ∀ j, j ≤ K → (lineAt h h (kindsOf (allOps K)) (K + j)).2 = [] := fun j hj =>
    empty_line (e1 K (Nat.le_refl _)) j (fun i hi => by unfold kindsOf; rw [allOps_pop (by omega)])
  have := metN_front (pairsL h h (kindsOf (allOps K)) (K + K)) (K + K) (by omega) (fun i hi => by
    rw [pairsL_getD hi]
    unfold lineP
    split
    · by_cases hik : i ≤ K
      · rw [e1 i hik]; rfl
      · obtain ⟨j, rfl⟩ : ∃ j, i = K + j := ⟨i - K, by omega⟩
        rw [e2 j (by omega)]; rfl
    · rfl)
  rwa [List.take_of_length_le (by omega)] at this
end

end Go.Proofs.Ytephmkekgmpnpaa
