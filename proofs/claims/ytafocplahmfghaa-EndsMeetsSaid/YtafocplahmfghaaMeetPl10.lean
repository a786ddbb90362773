/-
  How many items that were there are left, and who was met, in plain lists. Conditions: none; no Go function is looked at here.
-/
import Derived.Test.YtafocplahmfghaaFill10
namespace Go.Proofs.Ytafocplahmfghaa
open Go.RowKit

theorem old_step (most : Int) (s : List Int) (kind : Int) (k : Nat) : ((dqL most s kind k).count (-1) : Int) = (s.count (-1) : Int) - (if dqP s kind = -1 ∧ dqC most s kind = 2 then 1 else 0) := by
  have hk : ¬ (k : Int) = -1 := by omega
  by_cases h1 : kind = 1
  · subst h1
    by_cases hf : (s.length : Int) < most <;> simp [dqL, dqP, dqC, hf, hk]
  by_cases h2 : kind = 2
  · subst h2
    by_cases hf : (s.length : Int) < most <;> simp [dqL, dqP, dqC, hf, List.count_append, hk]
  by_cases h3 : kind = 3
  · subst h3
    cases s with
    | nil => simp [dqL, dqP, dqC]
    | cons x l => by_cases hx : x = -1 <;> simp [dqL, dqP, dqC, hx]
  by_cases h4 : kind = 4
  · subst h4
    rcases List.eq_nil_or_concat s with e | ⟨l, x, e⟩
    · subst e; simp [dqL, dqP, dqC]
    · rw [List.concat_eq_append] at e
      subst e
      by_cases hx : x = -1 <;> simp [dqL, dqP, dqC, List.count_append, hx]
  simp [dqL, dqP, dqC, h1, h2, h3, h4]

/-- How many of those that were there are left behind the first k. -/
def oldA (most : Int) (zs : List Int) (os : List (Int × Int)) (k : Nat) : Int := ((dqAt most (olds zs.length) (kindsOf os) k).count (-1) : Int)
section
variable {most : Int} {zs : List Int} {os : List (Int × Int)} {n k : Nat}
theorem oldA_zero : oldA most zs os 0 = zs.length := by simp [oldA, dqAt, olds]
theorem oldA_next : oldA most zs os (k + 1) = oldA most zs os k - (if ptA most zs os k = -1 ∧ cdA most zs os k = 2 then 1 else 0) := by
  unfold oldA ptA
  rw [dqAt, old_step, code_same]
theorem oldA_low : 0 ≤ oldA most zs os k := by unfold oldA; omega
theorem oldA_high (hz : (zs.length : Int) ≤ most) : oldA most zs os k ≤ most := by
  have h := (dqAt_ok (k := k) (olds_ok (t := zs.length) (by omega) hz) (kindsOf os)).room
  have := List.count_le_length (a := (-1 : Int)) (l := dqAt most (olds zs.length) (kindsOf os) k)
  unfold oldA
  omega
/-- Who meets is a pop; whom it meets is a push that came ahead, and was told Done. -/
theorem meets {j : Nat} (hp : ptA most zs os k = j) : (kindsOf os k = 3 ∨ kindsOf os k = 4) ∧ (kindsOf os j = 1 ∨ kindsOf os j = 2) ∧ cdA most zs os j = 1 := by
  have hin : (j : Int) ∈ dqAt most (olds zs.length) (kindsOf os) k := by
    rw [← hp]
    exact met_in (by show 0 ≤ ptA most zs os k; omega)
  obtain ⟨_, h2, h3⟩ := stood (olds_neg _) (by omega) k hin
  rw [Int.toNat_natCast] at h2 h3
  rw [code_same] at h3
  refine ⟨?_, h2, h3⟩
  unfold ptA dqP at hp
  split at hp
  · rename_i h; exact .inl h
  · split at hp
    · rename_i h; exact .inr h
    · omega
/-- And was not met ahead. -/
theorem met_new {j : Nat} (hp : ptA most zs os k = j) (hk : k ≤ n) : (metRow (psA most zs os n) n k).getD j false = false := by
  by_cases hj : j < n
  · simp only [metRow, List.getD, List.getElem?_map, List.getElem?_range hj, Option.map_some, Option.getD_some, decide_eq_false_iff_not]
    intro hm
    unfold psA at hm
    rw [dpL_take hk] at hm
    obtain ⟨i, hi, he⟩ := psA_mem.1 (show (j : Int) ∈ psA most zs os k from hm)
    exact met_once (h0 := once_olds zs.length) (most := most) (ks := kindsOf os) hi (by show 0 ≤ ptA most zs os i; omega) (hp.trans he.symm)
  · simp [metRow, List.getD, hj]
end

end Go.Proofs.Ytafocplahmfghaa
