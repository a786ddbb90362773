/-
  A coin in plain lists: which bits a feed puts, how high a height is, and what is left behind it. Conditions: none; no Go function is looked at here.
-/
import Derived.Test.YtkpjgekhcjjlpaaTail
namespace Go.Proofs.Ytkpjgekhcjjlpaa

/-- The bit number m of these bytes, the least of each first. -/
def bitAt (zs : List Int) (m : Nat) : Bool := decide (zs.getD (m / 8) 0 / 2 ^ (m % 8) % 2 = 1)
/-- The first m bits of these bytes. -/
def first (zs : List Int) (m : Nat) : List Bool := (List.range m).map (bitAt zs)
/-- What a coin has when m bits have been fed. -/
def fed (bs : List Bool) (zs : List Int) (m : Nat) : List Bool := (bs ++ first zs m).take 20000
/-- What a coin has when all have been fed. -/
def feedL (bs : List Bool) (zs : List Int) : List Bool := fed bs zs (8 * zs.length)

theorem first_length (zs : List Int) (m : Nat) : (first zs m).length = m := by simp [first]
theorem first_succ (zs : List Int) (m : Nat) : first zs (m + 1) = first zs m ++ [bitAt zs m] := by simp [first, List.range_succ]
theorem first_zero (zs : List Int) : first zs 0 = [] := rfl
theorem fed_length (bs : List Bool) (zs : List Int) (m : Nat) : (fed bs zs m).length = min 20000 (bs.length + m) := by simp [fed, first_length]
theorem fed_le (bs : List Bool) (zs : List Int) (m : Nat) : (fed bs zs m).length ≤ 20000 := by rw [fed_length]; omega
theorem fed_zero (bs : List Bool) (zs : List Int) (h : bs.length ≤ 20000) : fed bs zs 0 = bs := by simp [fed, first_zero, List.take_of_length_le h]
theorem fed_succ (bs : List Bool) (zs : List Int) (m : Nat) (h : (fed bs zs m).length < 20000) : fed bs zs (m + 1) = fed bs zs m ++ [bitAt zs m] := by
  rw [fed_length] at h
  unfold fed
  rw [List.take_of_length_le (by simp [first_length]; omega), List.take_of_length_le (by simp [first_length]; omega), first_succ, List.append_assoc]
theorem first_take (zs : List Int) {m n : Nat} (h : m ≤ n) : (first zs n).take m = first zs m := by
  simp only [first, ← List.map_take, List.take_range, Nat.min_eq_left h]
theorem fed_full (bs : List Bool) (zs : List Int) {m n : Nat} (hm : m ≤ n) (h : ¬ (fed bs zs m).length < 20000) : fed bs zs n = fed bs zs m := by
  rw [fed_length] at h
  unfold fed
  rw [← first_take zs hm, List.take_append, List.take_append, List.take_take, Nat.min_eq_left (by omega)]
theorem feedL_length (bs : List Bool) (zs : List Int) : (feedL bs zs).length = min 20000 (bs.length + 8 * zs.length) := fed_length _ _ _
theorem feedL_le (bs : List Bool) (zs : List Int) : (feedL bs zs).length ≤ 20000 := fed_le _ _ _
theorem feedL_small (bs : List Bool) (zs : List Int) (h : bs.length + 8 * zs.length ≤ 20000) : feedL bs zs = bs ++ first zs (8 * zs.length) := by
  unfold feedL fed
  rw [List.take_of_length_le (by simp [first_length]; omega)]

/-- n tosses at most: how many tell true in a row, and what is left behind the first that does not. -/
def rise : Nat → List Bool → Nat × List Bool
  | 0, bs => (0, bs)
  | _ + 1, [] => (0, [])
  | n + 1, true :: bs => ((rise n bs).1 + 1, (rise n bs).2)
  | _ + 1, false :: bs => (0, bs)
/-- How high a height is, but for the one. -/
def up (bs : List Bool) : Nat := (rise 7 bs).1
/-- What is left behind a height. -/
def left (bs : List Bool) : List Bool := (rise 7 bs).2

theorem rise_le : ∀ (n : Nat) (bs : List Bool), (rise n bs).1 ≤ n
  | 0, _ => Nat.le_refl _
  | _ + 1, [] => Nat.zero_le _
  | n + 1, true :: bs => Nat.succ_le_succ (rise_le n bs)
  | _ + 1, false :: _ => Nat.zero_le _
theorem up_le (bs : List Bool) : up bs ≤ 7 := rise_le 7 bs
theorem rise_left : ∀ (n : Nat) (bs : List Bool), (rise n bs).2.length ≤ bs.length
  | 0, _ => Nat.le_refl _
  | _ + 1, [] => Nat.le_refl _
  | n + 1, true :: bs => Nat.le_succ_of_le (rise_left n bs)
  | _ + 1, false :: _ => Nat.le_succ _
theorem left_le (bs : List Bool) : (left bs).length ≤ bs.length := rise_left 7 bs

/-- How many bits are taken: one more than tell true, or as many, if there are no more, or they are as many as may be. -/
theorem rise_used : ∀ (n : Nat) (bs : List Bool), (bs.length = (rise n bs).2.length + (rise n bs).1 + 1 ∧ (rise n bs).1 < n) ∨ (bs.length = (rise n bs).2.length + (rise n bs).1 ∧ ((rise n bs).1 = n ∨ (rise n bs).2.length = 0))
  | 0, _ => .inr ⟨rfl, .inl rfl⟩
  | _ + 1, [] => .inr ⟨rfl, .inr rfl⟩
  | n + 1, true :: bs => by
    simp only [rise, List.length_cons]
    rcases rise_used n bs with ⟨h1, h2⟩ | ⟨h1, h2⟩
    · exact .inl ⟨by omega, by omega⟩
    · exact .inr ⟨by omega, by omega⟩
  | n + 1, false :: bs => .inl ⟨rfl, Nat.succ_pos n⟩
theorem used (bs : List Bool) : (bs.length = (left bs).length + up bs + 1 ∧ up bs < 7) ∨ (bs.length = (left bs).length + up bs ∧ (up bs = 7 ∨ (left bs).length = 0)) := rise_used 7 bs

end Go.Proofs.Ytkpjgekhcjjlpaa
