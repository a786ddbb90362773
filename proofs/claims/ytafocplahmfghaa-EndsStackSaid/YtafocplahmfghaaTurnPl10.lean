/-
  Operations at the other end, in plain lists: the same meet, the same is told. Conditions: none; no Go function is looked at here.
-/
import Derived.Test.YtafocplahmfghaaDqPl10
import Derived.Test.YtafocplahmfghaaBase10
namespace Go.Proofs.Ytafocplahmfghaa

/-- The kind at the other end. -/
def turnK (k : Int) : Int := if k = 1 then 2 else if k = 2 then 1 else if k = 3 then 4 else if k = 4 then 3 else k
theorem turn_do (n : Int) (zs : List Int) (k x : Int) : dqL n zs.reverse (turnK k) x = (dqL n zs k x).reverse ∧ dqC n zs.reverse (turnK k) = dqC n zs k ∧ dqP zs.reverse (turnK k) = dqP zs k := by
  by_cases h1 : k = 1
  · subst h1
    by_cases h : (zs.length : Int) < n <;> simp [dqL, dqC, dqP, turnK, h]
  by_cases h2 : k = 2
  · subst h2
    by_cases h : (zs.length : Int) < n <;> simp [dqL, dqC, dqP, turnK, h]
  by_cases h3 : k = 3
  · subst h3
    by_cases h : zs = []
    · subst h; simp [dqL, dqC, dqP, turnK]
    · refine ⟨by simp [dqL, turnK], by simp [dqC, turnK, h], ?_⟩
      cases zs with
      | nil => exact absurd rfl h
      | cons z zs => simp [dqP, turnK]
  by_cases h4 : k = 4
  · subst h4
    by_cases h : zs = []
    · subst h; simp [dqL, dqC, dqP, turnK]
    · refine ⟨by simp [dqL, turnK], by simp [dqC, turnK, h], ?_⟩
      obtain ⟨ys, y, rfl⟩ := (List.eq_nil_or_concat zs).resolve_left h
      simp [dqP, turnK]
  have ht : turnK k = k := by simp [turnK, h1, h2, h3, h4]
  rw [ht]
  simp [dqL, dqC, dqP, h1, h2, h3, h4]

/-- An operation at the other end. -/
def othO (o : Int × Int) : Int × Int := (turnK o.1, o.2)
theorem kinds_oth (os : List (Int × Int)) (k : Nat) : kindsOf (os.map othO) k = turnK (kindsOf os k) := by
  unfold kindsOf
  by_cases h : k < os.length
  · simp [List.getD, h, othO]
  · simp [List.getD, h, turnK]
theorem turn_at (most t : Int) (os : List (Int × Int)) : ∀ k, dqAt most (olds t) (kindsOf (os.map othO)) k = (dqAt most (olds t) (kindsOf os) k).reverse
  | 0 => by simp [dqAt, olds]
  | k + 1 => by rw [dqAt, turn_at most t os k, kinds_oth, (turn_do most _ _ _).1, dqAt]
theorem turn_pairs (most t : Int) (os : List (Int × Int)) (n : Nat) : dpL most (olds t) (kindsOf (os.map othO)) n = dpL most (olds t) (kindsOf os) n := by
  unfold dpL
  refine List.map_congr_left fun k _ => ?_
  rw [turn_at, kinds_oth, (turn_do most _ _ 0).2.2]
theorem turn_codes (most t : Int) (os : List (Int × Int)) (n : Nat) : dcL most (olds t) (kindsOf (os.map othO)) n = dcL most (olds t) (kindsOf os) n := by
  unfold dcL
  refine List.map_congr_left fun k _ => ?_
  rw [turn_at, kinds_oth, (turn_do most _ _ 0).2.1]

end Go.Proofs.Ytafocplahmfghaa
