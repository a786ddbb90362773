/-
  A ring of cells in plain lists: where an item stands, and what is left of the items behind a store, or behind a turn. Conditions: none; no Go function is looked at here.
-/
import Derived.Test.YthjcfeljbmehmaaTouch
namespace Go.Proofs.Ythjcfeljbmehmaa

/-- Where the item number i stands in a ring of m cells whose first item is at f. -/
def pos (m f i : Nat) : Nat := if f + i < m then f + i else f + i - m
/-- The cell ahead. -/
def ahead (m f : Nat) : Nat := if f = 0 then m - 1 else f - 1

theorem pos_lt {m f i : Nat} (hf : f < m) (hi : i ≤ m) : pos m f i < m := by unfold pos; split <;> omega
theorem pos_mod {m f i : Nat} (hf : f < m) (hi : i ≤ m) : (f + i) % m = pos m f i := by
  unfold pos
  split
  · exact Nat.mod_eq_of_lt (by omega)
  · rw [Nat.mod_eq_sub_mod (by omega), Nat.mod_eq_of_lt (by omega)]
theorem pos_zero {m f : Nat} (hf : f < m) : pos m f 0 = f := by unfold pos; rw [if_pos (by omega)]; omega
theorem ahead_lt {m f : Nat} (hf : f < m) : ahead m f < m := by unfold ahead; split <;> omega
theorem pos_inj {m f i j : Nat} (hi : i < m) (hj : j < m) (h : pos m f i = pos m f j) : i = j := by unfold pos at h; split at h <;> split at h <;> omega
theorem pos_ahead {m f i : Nat} (hf : f < m) (hi : i < m) : pos m (ahead m f) (i + 1) = pos m f i := by unfold pos ahead; split <;> split <;> split <;> omega
theorem pos_next {m f i : Nat} (hf : f < m) (hi : i + 1 < m) : pos m (pos m f 1) i = pos m f (i + 1) := by unfold pos; split <;> split <;> split <;> omega
theorem turn_next {m f : Nat} (hf : f < m) : (f + 1 + m) % m = pos m f 1 := by rw [Nat.add_mod_right, pos_mod hf (by omega)]
theorem turn_ahead {m f : Nat} (hf : f < m) : (f + m - 1) % m = ahead m f := by
  unfold ahead
  split
  · subst f; rw [Nat.zero_add]; exact Nat.mod_eq_of_lt (by omega)
  · rw [show f + m - 1 = f - 1 + m by omega, Nat.add_mod_right]; exact Nat.mod_eq_of_lt (by omega)

/-- The cells ds, gone through from f on, begin with the items zs. -/
structure Holds (ds : List Int) (f : Nat) (zs : List Int) : Prop where
  first : f < ds.length ∨ (f = 0 ∧ ds.length = 0)
  room : zs.length ≤ ds.length
  item : ∀ i, i < zs.length → ds.getD (pos ds.length f i) 0 = zs.getD i 0

theorem getD_set_same (ds : List Int) (j : Nat) (x : Int) (h : j < ds.length) : (ds.set j x).getD j 0 = x := by simp [List.getD, h]
theorem getD_set_other (ds : List Int) (j k : Nat) (x : Int) (h : j ≠ k) : (ds.set j x).getD k 0 = ds.getD k 0 := by simp [List.getD, h]

section
variable {ds zs : List Int} {f : Nat}
theorem Holds.none (m : Nat) : Holds (List.replicate m 0) 0 [] := ⟨by simp; omega, by simp, fun i hi => by simp at hi⟩
theorem Holds.lt (h : Holds ds f zs) (hp : 0 < ds.length) : f < ds.length := by rcases h.first with h1 | h1 <;> omega
theorem Holds.pushL (h : Holds ds f zs) (hr : zs.length < ds.length) (x : Int) : Holds (ds.set (ahead ds.length f) x) (ahead ds.length f) (x :: zs) := by
  have hf := h.lt (by omega)
  have ha := ahead_lt hf
  refine ⟨by simp; exact .inl ha, by simp; omega, fun i hi => ?_⟩
  rw [List.length_set]
  cases i with
  | zero => rw [pos_zero ha, getD_set_same _ _ _ ha]; rfl
  | succ i =>
    simp only [List.length_cons] at hi
    rw [pos_ahead hf (by omega), getD_set_other, h.item i (by omega)]
    · rfl
    · intro e
      rw [← pos_ahead hf (show i < ds.length by omega)] at e
      have e2 := pos_inj (m := ds.length) (f := ahead ds.length f) (i := 0) (j := i + 1) (by omega) (by omega) (by rw [pos_zero ha]; exact e)
      omega
theorem Holds.pushR (h : Holds ds f zs) (hr : zs.length < ds.length) (x : Int) : Holds (ds.set (pos ds.length f zs.length) x) f (zs ++ [x]) := by
  have hf := h.lt (by omega)
  refine ⟨by simp; exact .inl hf, by simp; omega, fun i hi => ?_⟩
  rw [List.length_set]
  simp only [List.length_append, List.length_cons, List.length_nil] at hi
  rcases Nat.lt_or_ge i zs.length with h1 | h1
  · rw [getD_set_other _ _ _ _ (fun e => by have := pos_inj (by omega) (by omega) e; omega), h.item i h1]
    simp [List.getD, h1, List.getElem?_append_left h1]
  · obtain rfl : i = zs.length := by omega
    rw [getD_set_same _ _ _ (pos_lt hf (by omega))]
    simp [List.getD]
theorem Holds.popL {z : Int} (h : Holds ds f (z :: zs)) : Holds ds (pos ds.length f 1) zs ∧ ds.getD (pos ds.length f 0) 0 = z := by
  have hr := h.room
  simp only [List.length_cons] at hr
  have hf := h.lt (by omega)
  refine ⟨⟨.inl (pos_lt hf (by omega)), by omega, fun i hi => ?_⟩, by rw [h.item 0 (by simp)]; rfl⟩
  rw [pos_next hf (by omega), h.item (i + 1) (by simp; omega)]
  rfl
theorem Holds.popR {y : Int} (h : Holds ds f (zs ++ [y])) : Holds ds f zs ∧ ds.getD (pos ds.length f zs.length) 0 = y := by
  have hr := h.room
  simp only [List.length_append, List.length_cons, List.length_nil] at hr
  refine ⟨⟨h.first, by omega, fun i hi => ?_⟩, by rw [h.item zs.length (by simp)]; simp [List.getD]⟩
  rw [h.item i (by simp; omega)]
  simp [List.getD, hi, List.getElem?_append_left hi]
end

end Go.Proofs.Ythjcfeljbmehmaa
