/-
  Who was met, how many meet at most, and which item a pop takes that meets nobody, in plain lists; a row of bools in a block of one's own. Conditions: none; no Go function is looked at here.
-/
import Derived.Test.YtephmkekgmpnpaaNestPl9
import Derived.Test.YtephmkekgmpnpaaApplyC9
import Derived.Test.YtephmkekgmpnpaaKnow9
namespace Go.Proofs.Ytephmkekgmpnpaa
open Go.RowKit

/-- Who was met by the first k. -/
def metL (most there : Int) (ks : Nat → Int) (n : Nat) : Nat → List Bool
  | 0 => List.replicate n false
  | k + 1 => if 0 ≤ lineP (lineAt most there ks k) (ks k) then (metL most there ks n k).set (lineP (lineAt most there ks k) (ks k)).toNat true else metL most there ks n k

section
variable {most there : Int} {ks : Nat → Int} {n : Nat}
theorem metL_length : ∀ k, (metL most there ks n k).length = n
  | 0 => by simp [metL]
  | k + 1 => by
    simp only [metL]
    split
    · simp [metL_length k]
    · exact metL_length k
theorem metL_true {i : Nat} : ∀ k, (metL most there ks n k).getD i false = true → ∃ t, t < k ∧ 0 ≤ lineP (lineAt most there ks t) (ks t) ∧ (lineP (lineAt most there ks t) (ks t)).toNat = i
  | 0, h => by
    simp only [metL, List.getD] at h
    by_cases hi : i < n <;> simp [hi] at h
  | k + 1, h => by
    simp only [metL] at h
    split at h
    · rename_i hp
      by_cases e : (lineP (lineAt most there ks k) (ks k)).toNat = i
      · exact ⟨k, by omega, hp, e⟩
      · rw [List.getD, List.getElem?_set_ne e] at h
        obtain ⟨t, a, b, c⟩ := metL_true k h
        exact ⟨t, by omega, b, c⟩
    · obtain ⟨t, a, b, c⟩ := metL_true k h
      exact ⟨t, by omega, b, c⟩
theorem metL_new (h0 : 0 ≤ there) (h1 : there ≤ most) {k : Nat} (hp : 0 ≤ lineP (lineAt most there ks k) (ks k)) : (metL most there ks n k).getD (lineP (lineAt most there ks k) (ks k)).toNat false = false := by
  cases h : (metL most there ks n k).getD (lineP (lineAt most there ks k) (ks k)).toNat false with
  | false => rfl
  | true =>
    obtain ⟨t, a, b, c⟩ := metL_true k h
    exact absurd (show lineP (lineAt most there ks t) (ks t) = lineP (lineAt most there ks k) (ks k) by omega) (met_once h0 h1 a hp)

/-- Of any number no more than half meet. -/
theorem met_half (h0 : 0 ≤ there) (h1 : there ≤ most) : ∀ k, 2 * metN (pairsL most there ks k) + (lineAt most there ks k).2.length ≤ (k : Int)
  | 0 => by simp [pairsL, metN, lineAt]
  | k + 1 => by
    have ih := met_half h0 h1 k
    rw [pairsL_snoc, metN_snoc]
    rcases places_step (most := most) (there := there) (ks := ks) k with ⟨k1, _, _, e⟩ | ⟨ys, j, _, e1, e2, e3⟩ | ⟨e, e3, _⟩
    · rw [e, if_pos (by simp [lineP, k1])]
      simp only [List.length_append, List.length_cons, List.length_nil]
      omega
    · have hj := (lineAt_ok h0 h1 ks k).places j (by rw [e1]; simp)
      rw [e2, e3, if_neg (by omega)]
      rw [e1] at ih
      simp only [List.length_append, List.length_cons, List.length_nil] at ih
      omega
    · rw [e, if_pos e3]
      omega

/-- A pop that meets nobody, and gets something. -/
theorem meet_take (h0 : 0 ≤ there) (h1 : there ≤ most) {k : Nat} (hp : ¬ 0 ≤ lineP (lineAt most there ks k) (ks k)) (hc : lineC most (lineAt most there ks k) (ks k) = 2) :
    ks k = 2 ∧ (lineAt most there ks k).2 = [] ∧ ∃ m : Nat, (lineAt most there ks k).1 = ((m + 1 : Nat) : Int) ∧ (lineAt most there ks (k + 1)).1 = (m : Int) := by
  have ho := lineAt_ok h0 h1 ks k
  simp only [lineAt]
  generalize lineAt most there ks k = s at *
  obtain ⟨t, ps⟩ := s
  unfold lineC at hc
  by_cases k1 : ks k = 1
  · rw [if_pos k1] at hc
    split at hc <;> omega
  · by_cases k2 : ks k = 2
    · rcases List.eq_nil_or_concat ps with e | ⟨ys, j, e⟩
      · subst e
        rw [if_neg k1, if_pos k2, if_pos rfl] at hc
        by_cases ht : 0 < t
        · refine ⟨k2, rfl, t.toNat - 1, by simp only; omega, ?_⟩
          simp only [lineStep, if_neg k1, if_pos k2, if_true, if_pos ht]
          omega
        · simp [ht] at hc
      · rw [List.concat_eq_append] at e
        subst e
        have := ho.places j (by simp)
        exact absurd (by simp [lineP, k2]; omega) hp
    · rw [if_neg k1, if_neg k2] at hc
      omega
/-- Nobody else takes an item. -/
theorem meet_keep {k : Nat} (h : 0 ≤ lineP (lineAt most there ks k) (ks k) ∨ lineC most (lineAt most there ks k) (ks k) ≠ 2) : (lineAt most there ks (k + 1)).1 = (lineAt most there ks k).1 := by
  simp only [lineAt]
  generalize lineAt most there ks k = s at *
  obtain ⟨t, ps⟩ := s
  unfold lineStep
  by_cases k1 : ks k = 1
  · rw [if_pos k1]
    split <;> rfl
  · by_cases k2 : ks k = 2
    · rw [if_neg k1, if_pos k2]
      by_cases hp : ps = []
      · subst hp
        by_cases ht : 0 < t
        · exfalso
          rcases h with h | h
          · simp [lineP] at h
          · simp [lineC, k2, ht] at h
        · simp [ht]
      · simp [hp]
    · rw [if_neg k1, if_neg k2]
end

/-- Bools in a block of their own. -/
def BRw (w : World) (b : Nat) (bs : List Bool) : Prop := w.heap[b]? = some (.cells (bs.map Value.bool).toArray 4 (0, 0))
section
variable {w w' : World} {b : Nat} {bs : List Bool}
theorem BRw.lt (h : BRw w b bs) : b < w.heap.size := lt_of_block h
theorem BRw.keep (h : BRw w b bs) (hb : w'.heap[b]? = w.heap[b]?) : BRw w' b bs := hb.trans h
theorem BRw.free (h : BRw w b bs) (j : Nat) : w.frozen? ⟨b, j, none⟩ = false := by unfold BRw at h; simp [World.frozen?, h]
theorem BRw.cell (h : BRw w b bs) {i : Nat} (hi : i < bs.length) : w.cell? ⟨b, i, none⟩ = some (.bool (bs.getD i false)) := by
  unfold BRw at h
  simp [World.cell?, h, List.getD, hi]
theorem BRw.set (h : BRw w b bs) (i : Nat) (x : Bool) : BRw (w.setCell ⟨b, i, none⟩ (.bool x)) b (bs.set i x) := by
  unfold BRw at h ⊢
  rw [heap_setCell_same w b i _ _ _ h]
  simp
end
theorem infoBool : (Try.prog.info? 4).map (fun i => (i.zero, i.size, i.bytes)) = some (some (.bool false), 1, 1) := by kernel_rfl
theorem madeBools {w w1 : World} {n : Nat} (ho : w1.ownsRow w.heap.size 4 1 (.slice (some ⟨w.heap.size, 0, none⟩) n n) n (madeCells (Value.bool false).cells (n * 1)).toList) (hg : w.grownBy w1 none) :
    BRw w1 w.heap.size (List.replicate n false) ∧ Below w.heap.size w w1 := by
  have hr := rowWhole ho
  rw [show (Value.bool false).cells = #[Value.bool false] from rfl, Nat.mul_one, toList_madeCells_one] at hr
  exact ⟨by unfold BRw; rw [hr]; simp, (Below.refl _ _).grown hg (Nat.le_refl _) (by simp)⟩

end Go.Proofs.Ytephmkekgmpnpaa
